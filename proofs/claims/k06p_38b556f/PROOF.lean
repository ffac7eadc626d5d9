import PyProof.Rows.All
import Wide.All
import OpenK.AllK
import Wide.FinOn
import Lean
import PyProof.EqAt
import PyProof.EqKinds
import PyProof.TupleCall
import KE.KSortTup
import KE.KRevSl
import PyProof.Rows.MinMaxN
import PyProof.DictWalks
import PyProof.IsiH_list
import PyProof.DictValues
import PyProof.SumAny
import PyProof.ExcAttrAll.ValueError
import PyProof.P3Eq
import KE.KMinBuiltin
import PyProof.Rows.Range3
import PyProof.SetScanFacts
import PyProof.FactsAll.NoneType_1
import PySem.Challenge.RW_gatherall_k06_whole_pairs
set_option Elab.async false
set_option linter.all false
set_option maxRecDepth 100000
namespace L2
open PySem PySem.Spec PyProof.Rows
noncomputable abbrev Key:=Sum Int Str
noncomputable def z1t:Key->Value->Bool
 | .inl k,v=>Value.isInt k v
 | .inr x,v=>Value.isStrOf x v
noncomputable def keyH(w:World):Key->Int
 | .inl k=>hashInt k
 | .inr x=>hashStr w x
theorem zp:∀{k:Key} {v:Value},z1t k v=true->(∃i t,k=Sum.inl i/\v=Value.int i t)\/(∃x t,k=Sum.inr x/\v=Value.str x t)
 | .inl i,v,h=>by
  obtain⟨t,e⟩:=Value.isInt_shape (k:=i) (v:=v) h;exact .inl ⟨i,t,rfl,e⟩
 | .inr x,v,h=>by
  obtain⟨t,e⟩:=Value.isStrOf_shape (x:=x) (v:=v) h;exact .inr ⟨x,t,rfl,e⟩
theorem z63(i:Int)(t:Tok):z1t (.inl i) (.int i t)=true:=by simp[z1t,Value.isInt]
theorem z6g(x:Str)(t:Tok):z1t (.inr x) (.str x t)=true:=by simp[z1t,Value.isStrOf]
theorem zAa(a b:Int):decide ((Sum.inl a:Key)=Sum.inl b)=(a == b):=by
 by_cases e:a=b
 ·subst e;simp
 ·have h:¬(Sum.inl a:Key)=Sum.inl b:=fun q=>e (Sum.inl.inj q);rw[decide_eq_false h];exact(beq_eq_false_iff_ne.mpr e).symm
theorem zAg(a b:Str):decide ((Sum.inr a:Key)=Sum.inr b)=decide (a=b):=by
 by_cases e:a=b
 ·subst e;simp
 ·have h:¬(Sum.inr a:Key)=Sum.inr b:=fun q=>e (Sum.inr.inj q);rw[decide_eq_false h,decide_eq_false e]
theorem zBv(a:Int)(b:Str):decide ((Sum.inl a:Key)=Sum.inr b)=false:=decide_eq_false (fun q=>nomatch q)
theorem zAd(a:Str)(b:Int):decide ((Sum.inr a:Key)=Sum.inl b)=false:=decide_eq_false (fun q=>nomatch q)
noncomputable def zT(prog:Program)(w:World):PySem.KeyKind prog w Key where
 is:=z1t
 hash:=keyH w
 inj:=fun v a b ha hb=>by
  rcases zp ha with ⟨i,t,rfl,rfl⟩ | ⟨x,t,rfl,rfl⟩
  ·rcases zp hb with ⟨j,u,rfl,e⟩ | ⟨y,u,rfl,e⟩
   ·injection e with e1 _;rw[e1]
   ·exact nomatch e
  ·rcases zp hb with ⟨j,u,rfl,e⟩ | ⟨y,u,rfl,e⟩
   ·exact nomatch e
   ·injection e with e1 _;rw[e1]
 byValue:=fun k v h=>by
  rcases zp h with ⟨i,t,rfl,rfl⟩ | ⟨x,t,rfl,rfl⟩<;>rfl
 pyHash:=fun hv h=>by
  rcases zp hv with ⟨i,t,rfl,rfl⟩ | ⟨x,t,rfl,rfl⟩
  ·exact wpAny_pyHash_int h
  ·exact wpAny_pyHash_str h
 eqBool:=fun hu hv h=>by
  rcases zp hu with ⟨i,t,rfl,rfl⟩ | ⟨x,t,rfl,rfl⟩
  ·rcases zp hv with ⟨j,u,rfl,rfl⟩ | ⟨y,u,rfl,rfl⟩
   ·rw[zAa]at h;exact wpAny_eqBool_int h
   ·rw[zBv]at h;exact SeqAt.EqAt.int_str i t y u _ _ _ _ h
  ·rcases zp hv with ⟨j,u,rfl,rfl⟩ | ⟨y,u,rfl,rfl⟩
   ·rw[zAd]at h;exact SeqAt.EqAt.str_int x t j u _ _ _ _ h
   ·rw[zAg]at h;exact wpAny_eqBool_str h
 «strs»:=fun k x t v h=>by
  rcases zp h with ⟨i,u,rfl,e⟩ | ⟨y,u,rfl,e⟩
  ·exact nomatch e
  ·injection e with e1 _
   subst e1;cases v<;>rfl
theorem z2m(prog:Program)(w:World)(i:Int)(t:Tok):(zT prog w).is (.inl i) (.int i t)=true:=z63 i t
theorem z2i(prog:Program)(w:World)(x:Str)(t:Tok):(zT prog w).is (.inr x) (.str x t)=true:=z6g x t
inductive V where
 | non | bl (b:Bool) | int (i:Int) | str (x:Str) | byt (b:Array UInt8) | flt (b:UInt64) | ref (a:Addr) | ty (n:String)
 deriving DecidableEq
noncomputable def RelV:V->Value->Prop
 | .non,u=>u=Value.none
 | .bl b,u=>u=Value.bool b
 | .int i,u=>∃t,u=Value.int i t
 | .str x,u=>∃t,u=Value.str x t
 | .byt b,u=>∃t,u=Value.bytes b t
 | .flt b,u=>∃t,u=Value.float b t
 | .ref a,u=>u=Value.ref a
 | .ty n,u=>u=Value.type n
noncomputable abbrev Vals:List V->List Value->Prop:=Paired RelV
theorem Vals.length{xs:List V}{us:List Value}(r:Vals xs us):xs.length=us.length:=Paired.length r
theorem Vals.get:∀{xs:List V} {us:List Value} {i:Nat} {x:V},Vals xs us->xs[i]?=some x->∃u,us[i]?=some u/\RelV x u
 | _,_,_,_,.nil,e=>by simp at e
 | _,_,0,_,.cons r _,e=>by simp at e;subst e;exact⟨_,rfl,r⟩
 | _,_,i+1,x,.cons _ t,e=>by
  obtain⟨u,h1,h2⟩:=Vals.get (i:=i) (x:=x) t (by simpa using e);exact⟨u,by simpa using h1,h2⟩
theorem Vals.set{x:V}{u:Value}(r:RelV x u):∀{xs:List V} {us:List Value} (i:Nat),Vals xs us->Vals (xs.set i x) (us.set i u)
 | _,_,_,.nil=>.nil
 | _,_,0,.cons _ t=>.cons r t
 | _,_,i+1,.cons q t=>.cons q (Vals.set r i t)
theorem Vals.append:∀{xs ys:List V} {us ws:List Value},Vals xs us->Vals ys ws->Vals (xs++ys) (us++ws)
 | _,_,_,_,.nil,s=>s
 | _,_,_,_,.cons r t,s=>.cons r (Vals.append t s)
theorem Vals.take:∀{xs:List V} {us:List Value} (n:Nat),Vals xs us->Vals (xs.take n) (us.take n)
 | _,_,0,_=>.nil
 | _,_,_+1,.nil=>.nil
 | _,_,n+1,.cons r t=>.cons r (Vals.take n t)
theorem Vals.drop:∀{xs:List V} {us:List Value} (n:Nat),Vals xs us->Vals (xs.drop n) (us.drop n)
 | _,_,0,r=>r
 | _,_,_+1,.nil=>.nil
 | _,_,n+1,.cons _ t=>Vals.drop n t
noncomputable def RelO:Option V->Option Value->Prop
 | some v,some u=>RelV v u
 | none,none=>True
 | _,_=>False
noncomputable def KV{κ:Type}:List (κ×V)->List (κ×Value)->Prop:=Paired fun(p:κ×V) (q:κ×Value)=>p.1=q.1/\RelV p.2 q.2
noncomputable def kV:Key->V
 | .inl i=>.int i
 | .inr x=>.str x
inductive HO where
 | lst (xs:List V)
 | tup (xs:List V)
 | dK (kvs:List (Key×V)) | dT (kvs:List (List Key×V))
 | set (S:Int->Bool) (n:Nat)
 | ins (C dx:Addr) (fs:List (Str×V))
 | own (x:Addr)
 | xd (fs:List (Str×V))
 | met (f x:Addr)
 | rng (lo hi:Int)
 | frz (o:Obj) (u:HO)
 | tbl (ps:Array Value)
 | ext (φ:Heap->Prop)
noncomputable abbrev Hp:=Addr->Option HO
noncomputable def upd(H:Hp)(a:Addr)(o:HO):Hp:=fun b=>if b=a then some o else H b
theorem zG{H:Hp}{a:Addr}{o:HO}:upd H a o a=some o:=by unfold upd;rw[if_pos rfl]
theorem zI{H:Hp}{a b:Addr}{o:HO}(h:b≠a):upd H a o b=H b:=by unfold upd;rw[if_neg h]
theorem wu{H:Hp}{a:Addr}{o u:HO}:upd (upd H a o) a u=upd H a u:=by
 funext b;unfold upd;split<;>rfl
theorem z5A{H:Hp}{a b:Addr}{o u:HO}(h:H a=some o)(h':H b=some u)(d:o≠u):a≠b:=by
 intro e;subst e;rw[h]at h';exact d (Option.some.inj h')
theorem zb{H:Hp}{a b:Addr}{o:HO}(h:H a=some o)(h':H b=none):a≠b:=by
 intro e;subst e;rw[h]at h';cases h'
section
variable(P:Program)(w:World)
noncomputable def ObjOk(H:Hp)(h:Heap)(a:Addr):HO->Prop
 | .lst xs=>xs.length<=sizeLine/\∃(its:List Value) (n:Nat),Vals xs its/\h.get? a=some { cls:=.type "list",data:=.seq its.toArray n }
 | .tup xs=>(xs.length<=sizeLine/\∃o,h.get? a=some o/\o.dict=none)/\∃its:List Value,Vals xs its/\IsTup h a its.toArray
 | .dK kvs=>kvs.length<=sizeLine/\(a == sysModules)=false/\∃vs,KV kvs vs/\h.DictOf (zT P w) a vs
 | .dT kvs=>kvs.length<=sizeLine/\(a == sysModules)=false/\∃xs:List (List Key×Addr×Value),
   Paired (fun(p:List Key×V) (q:List Key×Addr×Value)=>p.1=q.1/\H q.2.1=some (.tup (p.1.map kV))/\RelV p.2 q.2.2) kvs xs/\
   ∃o es ep,h.get? a=some o/\o.ExactDict/\o.data=.dict es ep/\es.toList=xs.map (entryOfKey (tupleKind (zT P w)))/\(xs.map (·.1)).Nodup
 | .set S n=>h.SetOf (intKind P w) a S n
 | .ins C dx fs=>H dx=some (.own a)/\fs.length<=1000/\dx≠a/\h.get? a=some (W.instObj C dx)/\
   ∃mA,h.Ns1 dx mA/\(∀f,RelO (fs.lookup f) (mA f))/\PySem.Within mA (fs.map (·.1))
 | .own _=>∃o,h.get? a=some o
 | .xd fs=>∃mA,h.Ns1 a mA/\∀f,RelO (fs.lookup f) (mA f)
 | .rng lo hi=>∃t u v,h.get? a=some { cls:=.type "range",data:=.fields #[.int lo t,.int hi u,.int 1 v] }
 | .frz o u=>h.get? a=some o/\ObjOk H h a u
 | .tbl ps=>h.get? a=some { cls:=.none,data:=.fields ps }
 | .met f x=>h.get? a=some (W.methodObj (.ref f) (.ref x))
 | .ext φ=>φ h/\(∃o,h.get? a=some o)/\∀h1 h2:Heap,φ h1->(∀o,h1.get? a=some o->h2.get? a=some o)->φ h2
def HOk(H:Hp)(h:Heap):Prop:=∀a o,H a=some o->ObjOk P w H h a o
end
section
variable{P:Program}{w:World}{H H':Hp}{h h':Heap}{a:Addr}{o:HO}
theorem ObjOk.lt(x:ObjOk P w H h a o):a<h.objs.size:=by
 cases o with
 | lst xs=>obtain⟨_,_,_,_,e⟩:=x;exact Heap.lt_size e
 | tup xs=>obtain⟨_,_,_,p⟩:=x;exact p.lt
 | dK kvs=>obtain⟨_,_,_,_,o,_,_,e,_⟩:=x;exact Heap.lt_size e
 | dT kvs=>obtain⟨_,_,_,_,o,_,_,e,_⟩:=x;exact Heap.lt_size e
 | set S n=>obtain⟨o,_,_,_,e,_⟩:=x;exact Heap.lt_size e
 | ins C dx fs=>obtain⟨_,_,_,e,_⟩:=x;exact Heap.lt_size e
 | own y=>obtain⟨_,e⟩:=x;exact Heap.lt_size e
 | xd fs=>obtain⟨_,⟨_,_,_,e,_⟩,_⟩:=x;exact Heap.lt_size e
 | rng lo hi=>obtain⟨_,_,_,e⟩:=x;exact Heap.lt_size e
 | frz ob u=>obtain⟨e,_⟩:=x;exact Heap.lt_size e
 | tbl ps=>exact Heap.lt_size (show h.get? a=some _ from x)
 | met f y=>exact Heap.lt_size (show h.get? a=some _ from x)
 | ext φ=>obtain⟨_,⟨_,e⟩,_⟩:=x;exact Heap.lt_size e
theorem Paired.mapP{α β:Type}{F G:α->β->Prop}:∀{l₁:List α} {l₂:List β},Paired F l₁ l₂->(∀a b,F a b->G a b)->Paired G l₁ l₂
 | _,_,.nil,_=>.nil
 | _,_,.cons r t,f=>.cons (f _ _ r) (Paired.mapP t f)
theorem ObjOk.stay(x:ObjOk P w H h a o)(k:∀b u,(b=a\/H b=some (.own a))->h.get? b=some u->h'.get? b=some u)
  (ho:∀b,H b=some (.own a)->H' b=some (.own a)) (ht:∀b xs,H b=some (.tup xs)->H' b=some (.tup xs)):ObjOk P w H' h' a o:=by
 induction o with
 | lst xs=>obtain⟨z,its,n,r,e⟩:=x;exact⟨z,its,n,r,k _ _ (.inl rfl) e⟩
 | tup xs=>obtain⟨⟨z,o2,e2,c2⟩,its,r,ob,e,c⟩:=x;exact⟨⟨z,o2,k _ _ (.inl rfl) e2,c2⟩,its,r,ob,k _ _ (.inl rfl) e,c⟩
 | dK kvs=>obtain⟨z,y,vs,r,ob,es,ep,e,c⟩:=x;exact⟨z,y,vs,r,ob,es,ep,k _ _ (.inl rfl) e,c⟩
 | dT kvs=>
  obtain⟨z,y,xs,r,ob,es,ep,e,c⟩:=x;exact⟨z,y,xs,Paired.mapP r fun p q z=>⟨z.1,ht _ _ z.2.1,z.2.2⟩,ob,es,ep,k _ _ (.inl rfl) e,c⟩
 | set S n=>obtain⟨ob,es,ep,t,e,c⟩:=x;exact⟨ob,es,ep,t,k _ _ (.inl rfl) e,c⟩
 | ins C dx fs=>
  obtain⟨d,z,ne,e,mA,⟨od,es,ep,e2,c⟩,r⟩:=x;exact⟨ho _ d,z,ne,k _ _ (.inl rfl) e,mA,⟨od,es,ep,k _ _ (.inr d) e2,c⟩,r⟩
 | own y=>obtain⟨ob,e⟩:=x;exact⟨ob,k _ _ (.inl rfl) e⟩
 | xd fs=>obtain⟨mA,⟨od,es,ep,e,c⟩,r⟩:=x;exact⟨mA,⟨od,es,ep,k _ _ (.inl rfl) e,c⟩,r⟩
 | rng lo hi=>obtain⟨t,u,v,e⟩:=x;exact⟨t,u,v,k _ _ (.inl rfl) e⟩
 | frz ob u ih=>obtain⟨e,q⟩:=x;exact⟨k _ _ (.inl rfl) e,ih q⟩
 | tbl ps=>
  have e:h.get? a=some { cls:=.none,data:=.fields ps }:=x;show h'.get? a=some { cls:=.none,data:=.fields ps };exact k a _ (.inl rfl) e
 | met f y=>
  have e:h.get? a=some (W.methodObj (.ref f) (.ref y)):=x;show h'.get? a=some (W.methodObj (.ref f) (.ref y));exact k a _ (.inl rfl) e
 | ext φ=>obtain⟨p,⟨o,e⟩,st⟩:=x;exact⟨st _ _ p fun o q=>k _ _ (.inl rfl) q,⟨o,k _ _ (.inl rfl) e⟩,st⟩
theorem HOk.lt(x:HOk P w H h)(e:H a=some o):a<h.objs.size:=(x a o e).lt
theorem HOk.fresh(x:HOk P w H h)(e:h.objs.size<=a):H a=none:=by
 cases q:H a with
 | none=>rfl
 | some u=>exact absurd (Nat.lt_of_lt_of_le (x.lt q) e) (Nat.lt_irrefl _)
theorem HOk.kept(x:HOk P w H h)(k:∀b u,h.get? b=some u->h'.get? b=some u):HOk P w H h':=fun a o e=>
 (x a o e).stay (fun b u _ q=>k b u q) (fun _ q=>q) fun _ _ q=>q
theorem HOk.laid(x:HOk P w H h)(k:∀b u,h.get? b=some u->h'.get? b=some u)(hp:h.objs.size<=a)(new:ObjOk P w (upd H a o) h' a o):HOk P w (upd H a o) h':=fun b u e=>by
 have hn:=x.fresh hp;by_cases hb:b=a
 ·subst hb;rw[zG]at e;cases e;exact new
 ·rw[zI hb]at e;exact(x b u e).stay (fun c v _ q=>k c v q) (fun c q=>by rw[zI (zb q hn)];exact q) fun c xs q=>by rw[zI (zb q hn)];exact q
end
def Rd(H:Hp)(a:Addr)(u:HO):Prop:=H a=some u\/∃o,H a=some (.frz o u)
theorem Rd.ok{P:Program}{w:World}{H:Hp}{h:Heap}{a:Addr}{u:HO}(r:Rd H a u)(x:HOk P w H h):ObjOk P w H h a u:=by
 rcases r with r | ⟨o,r⟩
 ·exact x a u r
 ·obtain⟨_,q⟩:=x a _ r;exact q
noncomputable def Mut:Option HO->Prop
 | some (.lst _)=>True
 | some (.dK _)=>True
 | some (.dT _)=>True
 | some (.set _ _)=>True
 | some (.ins _ _ _)=>True
 | some (.ext _)=>True
 | _=>False
section
variable{P:Program}{w:World}{H:Hp}{h h':Heap}{x e:Addr}{o':HO}
theorem HOk.write(ok:HOk P w H h)(mu:Mut (H x))(he:e=x\/H e=some (.own x))(k:∀b u,b≠e->h.get? b=some u->h'.get? b=some u)(heo:∃u,h'.get? e=some u)
  (new:ObjOk P w (upd H x o') h' x o'):HOk P w (upd H x o') h':=fun b u q=>by
 have nown:∀c y,H c=some (.own y)->c≠x:=fun c y r z=>by subst z;rw[r]at mu;exact mu
 have ntup:∀c xs,H c=some (.tup xs)->c≠x:=fun c xs r z=>by subst z;rw[r]at mu;exact mu
 by_cases hb:b=x
 ·subst hb;rw[zG]at q;cases q;exact new
 ·rw[zI hb]at q;by_cases hbe:b=e
  ·have q':H b=some (.own x):=by
    rcases he with z | z
    ·exact absurd (hbe.trans z) hb
    ·rw[hbe];exact z
   rw[q]at q';cases q';obtain⟨v,hv⟩:=heo;exact⟨v,by rw[hbe];exact hv⟩
  ·refine(ok b u q).stay (fun c v hc r=>k c v ?_ r) (fun c r=>by rw[zI (nown c b r)];exact r) fun c xs r=>by rw[zI (ntup c xs r)];exact r
   rcases hc with rfl | hc
   ·exact hbe
   ·rintro rfl;rcases he with z | z
    ·exact nown c b hc z
    ·rw[hc]at z;cases z;exact hb rfl
end
structure Un(fs ex:List Addr)(H H':Hp)(h h':Heap):Prop where
 keep:∀b o,h.get? b=some o->H b=none->b∉fs->b∉ex->h'.get? b=some o
 slot:∀b o,h.get? b=some o->H b=none->b∈fs->b∉ex->∃sl,h'.get? b=some { o with slots:=sl }
 free:∀b o,h.get? b=some o->H b=none->b∉ex->H' b=none
 there:∀b o,h.get? b=some o->b∉ex->∃o',h'.get? b=some o'
 tups:∀b xs,H b=some (.tup xs)->H' b=some (.tup xs)
 frzs:∀b o u,H b=some (.frz o u)->H' b=some (.frz o u)
 tbls:∀b ps,H b=some (.tbl ps)->∃more,H' b=some (.tbl (ps++more))
section
variable{fs fs' ex ex':List Addr}{H H1 H2:Hp}{h h1 h2 h':Heap}{a x e:Addr}{o:HO}
theorem Un.any(u:Un fs ex H H1 h h1){b:Addr}{ob:Obj}(q:h.get? b=some ob)(n:H b=none)(hx:b∉ex):∃sl,h1.get? b=some { ob with slots:=sl }:=by
 by_cases hb:b∈fs
 ·exact u.slot b ob q n hb hx
 ·exact⟨ob.slots,u.keep b ob q n hb hx⟩
theorem Un.kept(k:∀b u,h.get? b=some u->h'.get? b=some u):Un fs ex H H h h':=
 ⟨fun b ob q _ _ _=>k b ob q,fun b ob q _ _ _=>⟨ob.slots,k b ob q⟩,fun _ _ _ n _=>n,fun b ob q _=>⟨ob,k b ob q⟩,fun _ _ q=>q,fun _ _ _ q=>q,fun _ ps q=>⟨#[],by rw[q];simp⟩⟩
theorem Un.refl:Un fs ex H H h h:=Un.kept fun _ _ q=>q
theorem Un.laid(k:∀b u,h.get? b=some u->h'.get? b=some u)(hp:h.objs.size<=a)(hn:H a=none):Un fs ex H (upd H a o) h h' where
 keep:=fun b u q _ _ _=>k b u q
 slot:=fun b u q _ _ _=>⟨u.slots,k b u q⟩
 free:=fun b u q n _=>by rw[zI (Nat.ne_of_lt (Nat.lt_of_lt_of_le (Heap.lt_size q) hp))];exact n
 there:=fun b u q _=>⟨u,k b u q⟩
 tups:=fun b xs q=>by rw[zI (zb q hn)];exact q
 frzs:=fun b u xs q=>by rw[zI (zb q hn)];exact q
 tbls:=fun b ps q=>⟨#[],by rw[zI (zb q hn),q];simp⟩
theorem Un.write(mu:Mut (H x))(he:e=x\/H e=some (.own x))(k:∀b u,b≠e->h.get? b=some u->h'.get? b=some u)(heo:∃u,h'.get? e=some u):Un fs ex H (upd H x o) h h':=by
 have hx:∀b,H b=none->b≠x:=fun b n z=>by subst z;rw[n]at mu;exact mu
 have hb:∀b,H b=none->b≠e:=fun b n z=>by
  subst z;rcases he with r | r
  ·exact hx b n r
  ·rw[n]at r;cases r
 have hm:∀b u,H b=some u->¬Mut (some u)->b≠x:=fun b u q nm z=>by subst z;rw[q]at mu;exact nm mu
 refine⟨fun b u q n _ _=>k b u (hb b n) q,fun b u q n _ _=>⟨u.slots,k b u (hb b n) q⟩,fun b u q n _=>by rw[zI (hx b n)];exact n,fun b u q _=>?_,
  fun b xs q=>by rw[zI (hm b _ q fun z=>z)];exact q,fun b u xs q=>by rw[zI (hm b _ q fun z=>z)];exact q,fun b ps q=>⟨#[],by rw[zI (hm b _ q fun z=>z),q];simp⟩⟩
 by_cases hbe:b=e
 ·subst hbe;exact heo
 ·exact⟨u,k b u hbe q⟩
end
noncomputable def trk(h:Heap)(H:Hp):List Addr:=(List.range h.objs.size).filter fun a=>(H a).isSome
noncomputable def hidT(h:Heap)(H:Hp):Heap:=W.hideAll h (trk h H)
theorem z6k(h:Heap)(H:Hp):(hidT h H).objs.size=h.objs.size:=W.hideAll_size _ _
theorem z83{h:Heap}{H:Hp}{b:Addr}{o:Obj}(e:h.get? b=some o)(n:H b=none):(hidT h H).get? b=some o:=
 W.hideAll_get _ e fun hm=>by
  have q:(H b).isSome=true:=(List.mem_filter.mp hm).2;rw[n]at q;simp at q
theorem z9m{h:Heap}{H:Hp}{b:Addr}{o:Obj}(e:(hidT h H).get? b=some o):h.get? b=some o/\H b=none:=by
 have e':h.get? b=some o:=W.of_hideAll (trk h H) e;refine⟨e',?_⟩;cases q:H b with
 | none=>rfl
 | some x=>
  have hm:b∈trk h H:=List.mem_filter.mpr ⟨List.mem_range.mpr (Heap.lt_size e'),by simp[q]⟩;have z:(hidT h H).get? b=none:=W.hideAll_none (trk h H) hm;rw[z]at e;cases e
noncomputable def z9J(g h:Heap)(L:Addr):List (Addr×Obj):=(List.range h.objs.size).filterMap fun a=>if a=L\/(g.get? a).isSome=true then none else(h.get? a).map fun o=>(a,o)
noncomputable def rest(g h:Heap)(L d:Addr):List (Addr×Obj):=(z9J g h L).filter fun p=>decide (p.1≠d)
structure Mod(K:W.Frag)(mg:Str->Option Value)(base:Heap):Prop where
 kin:K.In base
 glob:base.Ns mainGlobals mg
 blt:∃mb,base.Ns builtinsNs mb/\∀x:Str,x≠"__name__"->mb x=bootBuiltins x
 nolimit:base.NoLimit
structure Cx where
 prog:Program
 w:World
 K:W.Frag
 mg:Str->Option Value
 base:Heap
 A:Around
 N:List Str
 s₀:Shared
 H₀:Hp
 env:Env
 outer:List Env
 stack:List Env
 ex:List Addr
 fn:Str->Bool
 calm:Bool
 pn:List (Addr×Obj)
 xe:Value->Shared->Prop
noncomputable def frs(l:List Env):List Addr:=l.filterMap (·.frame)
noncomputable abbrev Cx.fs(X:Cx):List Addr:=frs X.outer
def Vis(sc:Scope)(x:Str):Prop:=sc.names.lookup x=some .local\/sc.names.lookup x=some .cell\/sc.names.lookup x=some .free
def Loc(sc:Scope)(x:Str):Prop:=sc.names.lookup x=some .local\/sc.names.lookup x=some .cell
def Look(env:Env)(h:Heap)(m:Str->Option Value)(x:Str)(u:Value):Prop:=
 (env.kindOf x=some .local/\m x=some u)\/((env.kindOf x=some .cell\/env.kindOf x=some .free)/\∃c,env.cells.lookup x=some c/\h.IsCell c (some u))
structure Cx.Ok(X:Cx):Prop where
 mod:Mod X.K X.mg X.base
 kind:X.env.scope.kind=.function
 glob:X.env.globals=mainGlobals
 blt:X.env.builtins=builtinsNs
 above:X.s₀.heap.objs.size<=X.env.locals
 inj:∀x y c,X.env.cells.lookup x=some c->X.env.cells.lookup y=some c->x=y
 has:∀x,(X.env.kindOf x=some .cell\/X.env.kindOf x=some .free)->∃c,X.env.cells.lookup x=some c
 cab:∀x c,X.fn x=true->X.env.cells.lookup x=some c->X.s₀.heap.objs.size<=c
 hd:X.calm=true->X.A.handled=none
 frames:X.A.frames=some X.stack
 stk:X.stack=X.outer\/(X.stack=X.env::X.outer/\X.env.frame=some X.env.locals)
 exf:∀b∈X.ex,b≠X.env.locals/\∀x c,X.env.cells.lookup x=some c->c≠b
 bs:∀b o,X.base.get? b=some o->X.s₀.heap.get? b=some o/\X.H₀ b=none
 bsz:X.base.objs.size<=X.s₀.heap.objs.size
 noex:∀b o,X.base.get? b=some o->b∉X.ex
 exfs:∀b∈X.ex,b∉X.fs
 funs:X.s₀.heap.FunFrames X.base X.outer
 frf:∀b∈X.fs,X.H₀ b=none
structure Inv(X:Cx)(pins:List (Addr×Obj))(σ:List (Option V))(H:Hp)(s:Shared):Prop where
 ok:X.Ok
 os:s.os=X.s₀.os
 bare:AllBare s.gens
 base:Un X.fs X.ex X.H₀ H X.s₀.heap s.heap
 loc:∃m,s.heap.Ns X.env.locals m/\∀(i:Nat) (x:Str) (v:V),X.N[i]?=some x->σ[i]?=some (some v)->Vis X.env.scope x->∃u,RelV v u/\Look X.env s.heap m x u
 cell:∀x c,X.env.cells.lookup x=some c->∃v,s.heap.IsCell c v
 free:H X.env.locals=none
 freeC:∀x c,X.env.cells.lookup x=some c->H c=none
 pin:∀p∈X.pn++pins,s.heap.get? p.1=some p.2/\H p.1=none/\p.1≠X.env.locals/\p.1∉X.fs/\∀v,p.2.data≠.cell v
 hok:HOk X.prog X.w H s.heap
 len:σ.length=X.N.length
section
variable{X:Cx}{pins:List (Addr×Obj)}{σ:List (Option V)}{H H':Hp}{s:Shared}{h':Heap}
theorem Cx.Ok.nofr(ok:X.Ok){b:Addr}{o:Obj}(e:X.base.get? b=some o):b∉X.fs:=fun hb=>by
 have:=(ok.funs.mem hb).1;rw[e]at this;cases this
theorem Inv.bs(I:Inv X pins σ H s):∀b o,X.base.get? b=some o->s.heap.get? b=some o/\H b=none:=fun b o e=>
 ⟨I.base.keep b o (I.ok.bs b o e).1 (I.ok.bs b o e).2 (I.ok.nofr e) (I.ok.noex b o e),I.base.free b o (I.ok.bs b o e).1 (I.ok.bs b o e).2 (I.ok.noex b o e)⟩
theorem Inv.bk(I:Inv X pins σ H s):∀b o,X.base.get? b=some o->s.heap.get? b=some o:=fun b o e=>(I.bs b o e).1
theorem Inv.mod(I:Inv X pins σ H s):Mod X.K X.mg X.base:=I.ok.mod
theorem Inv.kIn(I:Inv X pins σ H s):X.K.In s.heap:=I.ok.mod.kin.keeps I.bk
theorem Inv.lt(I:Inv X pins σ H s):X.env.locals<s.heap.objs.size:=let⟨_,hn,_⟩:=I.loc;hn.lt
theorem Inv.sz(I:Inv X pins σ H s):X.s₀.heap.objs.size<=s.heap.objs.size:=Nat.le_trans I.ok.above (Nat.le_of_lt I.lt)
theorem Inv.nofs(I:Inv X pins σ H s){a:Addr}(h:s.heap.objs.size<=a):a∉X.fs:=fun hb=>by
 obtain⟨_,o,ho,_⟩:=I.ok.funs.mem hb;exact absurd (Nat.lt_of_lt_of_le (Heap.lt_size ho) (Nat.le_trans I.sz h)) (Nat.lt_irrefl _)
theorem Inv.cne(I:Inv X pins σ H s):∀x c,X.env.cells.lookup x=some c->c≠X.env.locals:=fun x c e z=>by
 obtain⟨v,o,ho,hd⟩:=I.cell x c e;obtain⟨m,⟨o',es,ep,ho',hd',_⟩,_⟩:=I.loc;rw[z,ho']at ho;cases ho;rw[hd']at hd;cases hd
theorem Inv.funs(I:Inv X pins σ H s):s.heap.FunFrames X.base X.outer:=by
 have all:∀(l:List Env),(∀b∈frs l,b∈X.fs)->X.s₀.heap.FunFrames X.base l->s.heap.FunFrames X.base l:=by
  intro l
  induction l with
  | nil=>intro _ _;trivial
  | cons env r ih=>
   intro hs hl;obtain⟨hk,⟨L,o,hf,hn,ho,hd⟩,hr⟩:=hl;have hL:L∈X.fs:=hs L (by unfold frs;rw[List.filterMap_cons,hf];exact List.mem_cons_self);obtain⟨sl,e⟩:=I.base.slot L o ho (I.ok.frf L hL) hL fun z=>I.ok.exfs L z hL;exact⟨hk,⟨L,_,hf,hn,e,hd⟩,ih (fun b hb=>hs b (by unfold frs;rw[List.filterMap_cons,hf];exact List.mem_cons_of_mem _ hb)) hr⟩
 exact all X.outer (fun _ hb=>hb) I.ok.funs
theorem Inv.stack(I:Inv X pins σ H s):s.heap.FunFrames X.base X.stack:=by
 rcases I.ok.stk with e | ⟨e,hf⟩
 ·rw[e];exact I.funs
 ·rw[e];obtain⟨m,hn,_⟩:=I.loc;refine .cons (by rw[I.ok.kind];decide) hf hn ?_ I.funs;exact Heap.get?_none_of_le (Nat.le_trans I.ok.bsz I.ok.above)
theorem Inv.stkSub(I:Inv X pins σ H s):∀b∈frs X.stack,b∈X.env.locals::X.fs:=fun b hb=>by
 rcases I.ok.stk with e | ⟨e,hf⟩
 ·rw[e]at hb;exact List.mem_cons_of_mem _ hb
 ·rw[e]at hb;unfold frs at hb;rw[List.filterMap_cons,hf]at hb;exact hb
theorem Inv.stkFree(I:Inv X pins σ H s):∀b∈frs X.stack,H b=none:=fun b hb=>by
 rcases List.mem_cons.mp (I.stkSub b hb)with e | hb
 ·rw[e];exact I.free
 ·obtain⟨_,o,ho,_⟩:=I.ok.funs.mem hb;exact I.base.free b o ho (I.ok.frf b hb) fun z=>I.ok.exfs b z hb
theorem Inv.step{g':Array GenState}{t':Nat}{d':Drawn}{ch:List Addr}(I:Inv X pins σ H s)
  (hch:∀b∈ch,(b∈X.ex\/X.s₀.heap.objs.size<=b)/\b≠X.env.locals/\(∀x c,X.env.cells.lookup x=some c->c≠b)/\∀p∈X.pn++pins,p.1≠b)
  (keep:∀b o,b≠X.env.locals->b∉X.fs->b∉ch->s.heap.get? b=some o->H b=none->h'.get? b=some o)
  (slot:∀b o,b≠X.env.locals->b∈X.fs->b∉ch->s.heap.get? b=some o->H b=none->∃sl,h'.get? b=some { o with slots:=sl }) (free:∀b o,b∉ch->s.heap.get? b=some o->H b=none->H' b=none)
  (there:∀b o,b∉ch->s.heap.get? b=some o->∃o',h'.get? b=some o')
  (tups:∀b xs,H b=some (.tup xs)->H' b=some (.tup xs)) (frzs:∀b o u,H b=some (.frz o u)->H' b=some (.frz o u)) (tbls:∀b ps,H b=some (.tbl ps)->∃more,H' b=some (.tbl (ps++more)))
  (ns:∀m,s.heap.Ns X.env.locals m->h'.Ns X.env.locals m) (hok:HOk X.prog X.w H' h') (hg:AllBare g') :
  Inv X pins σ H' { s with heap:=h',gens:=g',drawn:=d',toks:=t' }:=by
 have neL:∀b o,X.s₀.heap.get? b=some o->b≠X.env.locals:=fun b o e=>Nat.ne_of_lt (Nat.lt_of_lt_of_le (Heap.lt_size e) I.ok.above);have neC:∀b o,X.s₀.heap.get? b=some o->b∉X.ex->b∉ch:=fun b o e hx hb=>by
  rcases(hch b hb).1 with z | z
  ·exact hx z
  ·exact absurd (Nat.lt_of_lt_of_le (Heap.lt_size e) z) (Nat.lt_irrefl _)
 have cellK:∀x c,X.env.cells.lookup x=some c->∀v,s.heap.IsCell c v->h'.IsCell c v:=fun x c e v ⟨o,ho,hd⟩=>by
  have nch:c∉ch:=fun z=>(hch c z).2.2.1 x c e rfl;by_cases hc:c∈X.fs
  ·obtain⟨sl,q⟩:=slot c o (I.cne x c e) hc nch ho (I.freeC x c e);exact⟨_,q,hd⟩
  ·exact⟨o,keep c o (I.cne x c e) hc nch ho (I.freeC x c e),hd⟩
 refine⟨I.ok,I.os,hg,⟨fun b o e n hb hx=>?_,fun b o e n hb hx=>?_,fun b o e n hx=>?_,fun b o e hx=>?_,fun b xs e=>tups b xs (I.base.tups b xs e),fun b o xs e=>frzs b o xs (I.base.frzs b o xs e),fun b ps e=>?_⟩,?_,fun x c e=>?_,?_,fun x c e=>?_,fun p hp=>?_,hok,I.len⟩
 ·exact keep b o (neL b o e) hb (neC b o e hx) (I.base.keep b o e n hb hx) (I.base.free b o e n hx)
 ·obtain⟨sl,e1⟩:=I.base.slot b o e n hb hx;obtain⟨sl',e2⟩:=slot b _ (neL b o e) hb (neC b o e hx) e1 (I.base.free b o e n hx);exact⟨sl',e2⟩
 ·obtain⟨o',e1⟩:=I.base.there b o e hx;exact free b o' (neC b o e hx) e1 (I.base.free b o e n hx)
 ·obtain⟨o',e1⟩:=I.base.there b o e hx;exact there b o' (neC b o e hx) e1
 ·obtain⟨m1,e1⟩:=I.base.tbls b ps e;obtain⟨m2,e2⟩:=tbls b _ e1;exact⟨m1++m2,by rw[e2,Array.append_assoc]⟩
 ·obtain⟨m,hn,hl⟩:=I.loc;refine⟨m,ns m hn,fun i x v e1 e2 e3=>?_⟩;obtain⟨u,r,l⟩:=hl i x v e1 e2 e3;refine⟨u,r,?_⟩;rcases l with l | ⟨k,c,e,z⟩
  ·exact .inl l
  ·exact .inr ⟨k,c,e,cellK x c e _ z⟩
 ·obtain⟨v,z⟩:=I.cell x c e;exact⟨v,cellK x c e v z⟩
 ·obtain⟨m,⟨o,_,_,ho,_⟩,_⟩:=I.loc;exact free _ o (fun z=>(hch _ z).2.1 rfl) ho I.free
 ·obtain⟨v,o,ho,hd⟩:=I.cell x c e;exact free c o (fun z=>(hch c z).2.2.1 x c e rfl) ho (I.freeC x c e)
 ·obtain⟨e,n,ne,nf,d⟩:=I.pin p hp;have nch:p.1∉ch:=fun z=>(hch p.1 z).2.2.2 p hp rfl;exact⟨keep p.1 p.2 ne nf nch e n,free p.1 p.2 nch e n,ne,nf,d⟩
theorem Inv.un{t':Nat}(I:Inv X pins σ H s)(u:Un X.fs [] H H' s.heap h')(hok:HOk X.prog X.w H' h'):Inv X pins σ H' { s with heap:=h',toks:=t' }:=by
 obtain⟨m,⟨o,es,ep,ho,r⟩,_⟩:=id I.loc;obtain⟨sl,hL⟩:=u.any ho I.free (by simp);exact I.step (g':=s.gens) (d':=s.drawn) (ch:=[]) (fun _ z=>nomatch z) (fun b o _ hb _ e n=>u.keep b o e n hb (by simp)) (fun b o _ hb _ e n=>u.slot b o e n hb (by simp)) (fun b o _ e n=>u.free b o e n (by simp)) (fun b o _ e=>u.there b o e (by simp)) u.tups u.frzs u.tbls (fun m' hm=>by
  obtain⟨o',es',ep',ho',r'⟩:=hm;rw[ho]at ho';cases ho';exact⟨_,es',ep',hL,r'⟩) hok I.bare
theorem Inv.call{g':Array GenState}{t':Nat}{d':Drawn}{ch:List Addr}(I:Inv X pins σ H s)(u:Un (frs X.stack) ch H H' s.heap h')(hok:HOk X.prog X.w H' h')(hg:AllBare g')
  (hch:∀b∈ch,(b∈X.ex\/X.s₀.heap.objs.size<=b)/\b≠X.env.locals/\(∀x c,X.env.cells.lookup x=some c->c≠b)/\∀p∈X.pn++pins,p.1≠b) :
  Inv X pins σ H' { s with heap:=h',gens:=g',drawn:=d',toks:=t' }:=by
 obtain⟨m,⟨o,es,ep,ho,r⟩,_⟩:=id I.loc;obtain⟨sl,hL⟩:=u.any ho I.free fun z=>(hch _ z).2.1 rfl;exact I.step (ch:=ch) hch (fun b o hL hb hc e n=>u.keep b o e n (fun z=>(List.mem_cons.mp (I.stkSub b z)).elim hL hb) hc) (fun b o _ _ hc e n=>u.any e n hc) (fun b o hc e n=>u.free b o e n hc) (fun b o hc e=>u.there b o e hc) u.tups u.frzs u.tbls (fun m' hm=>by
  obtain⟨o',es',ep',ho',r'⟩:=hm;rw[ho]at ho';cases ho';exact⟨_,es',ep',hL,r'⟩) hok hg
theorem Inv.turned{t':Nat}{it:Addr}(I:Inv X pins σ H s)(k:∀b o,b≠it->s.heap.get? b=some o->h'.get? b=some o)(hn:H it=none)(hL:it≠X.env.locals)
  (h1:it∈X.ex\/X.s₀.heap.objs.size<=it) (h2:∀x c,X.env.cells.lookup x=some c->c≠it) (h3:∀p∈X.pn++pins,p.1≠it):Inv X pins σ H { s with heap:=h',toks:=t' }:=by
 have nit:∀b u,H b=some u->b≠it:=fun b u e z=>by rw[z,hn]at e;cases e
 refine I.step (g':=s.gens) (d':=s.drawn) (ch:=[it]) (fun b hb=>?_) (fun b o _ _ hc e _=>k b o (fun z=>hc (by simp[z])) e) (fun b o _ _ hc e _=>⟨o.slots,k b o (fun z=>hc (by simp[z])) e⟩) (fun _ _ _ _ n=>n)
  (fun b o hc e=>⟨o,k b o (fun z=>hc (by simp[z])) e⟩) (fun _ _ e=>e) (fun _ _ _ e=>e) (fun b ps e=>⟨#[],by rw[e];simp⟩) (fun m hm=>?_) (fun b u e=>?_) I.bare
 ·have e:b=it:=by simpa using hb
  subst e;exact⟨h1,hL,h2,h3⟩
 ·obtain⟨o,es,ep,ho,r⟩:=hm;exact⟨o,es,ep,k _ o (Ne.symm hL) ho,r⟩
 ·refine(I.hok b u e).stay (fun c v hc q=>k c v ?_ q) (fun _ q=>q) fun _ _ q=>q;rcases hc with z | z
  ·rw[z];exact nit b u e
  ·exact nit c _ z
theorem Inv.tok(I:Inv X pins σ H s)(t:Nat):Inv X pins σ H { s with toks:=t }:=I.un (h':=s.heap) (t':=t) Un.refl I.hok
theorem Inv.kept{t':Nat}(I:Inv X pins σ H s)(k:∀b u,s.heap.get? b=some u->h'.get? b=some u):Inv X pins σ H { s with heap:=h',toks:=t' }:=I.un (Un.kept k) (I.hok.kept k)
theorem Inv.laid{a:Addr}{o:HO}{t':Nat}(I:Inv X pins σ H s)(k:∀b u,s.heap.get? b=some u->h'.get? b=some u)(hp:s.heap.objs.size<=a)(new:ObjOk X.prog X.w (upd H a o) h' a o):
  Inv X pins σ (upd H a o) { s with heap:=h',toks:=t' }:=I.un (Un.laid k hp (I.hok.fresh hp)) (I.hok.laid k hp new)
theorem Inv.write{x e:Addr}{o:HO}{t':Nat}(I:Inv X pins σ H s)(mu:Mut (H x))(he:e=x\/H e=some (.own x))(k:∀b u,b≠e->s.heap.get? b=some u->h'.get? b=some u)(heo:∃u,h'.get? e=some u)
  (new:ObjOk X.prog X.w (upd H x o) h' x o):Inv X pins σ (upd H x o) { s with heap:=h',toks:=t' }:=I.un (Un.write mu he k heo) (I.hok.write mu he k heo new)
theorem Inv.weak{σ':List (Option V)}(I:Inv X pins σ H s)(hl:σ'.length=σ.length)(w:∀(i:Nat) v,σ'[i]?=some (some v)->σ[i]?=some (some v)):Inv X pins σ' H s:=
 ⟨I.ok,I.os,I.bare,I.base,let⟨m,hn,hl'⟩:=I.loc;⟨m,hn,fun i x v e1 e2 e3=>hl' i x v e1 (w i v e2) e3⟩,I.cell,I.free,I.freeC,I.pin,I.hok,hl.trans I.len⟩
theorem Inv.pins_of{pins':List (Addr×Obj)}(I:Inv X pins σ H s)(h:∀p∈pins',s.heap.get? p.1=some p.2/\H p.1=none/\p.1≠X.env.locals/\p.1∉X.fs/\∀v,p.2.data≠.cell v):Inv X pins' σ H s:=
 ⟨I.ok,I.os,I.bare,I.base,I.loc,I.cell,I.free,I.freeC,fun p hp=>(List.mem_append.mp hp).elim (fun z=>I.pin p (List.mem_append_left _ z)) (h p),I.hok,I.len⟩
theorem z39{N:List Str}(hN:N.Nodup){i j:Nat}{x:Str}(a:N[i]?=some x)(b:N[j]?=some x):i=j:=by
 obtain⟨h1,e1⟩:=List.getElem?_eq_some_iff.mp a;obtain⟨h2,e2⟩:=List.getElem?_eq_some_iff.mp b;exact(List.getElem_inj hN).mp (e1.trans e2.symm)
theorem z1L{M:Model}{A:Around}{E:Value->Shared->Prop}{i:Nat}{x:Str}{v:V}{u:Value}{Q:Unit->Shared->Prop}(I:Inv X pins σ H s)(hN:X.N.Nodup)(hi:X.N[i]?=some x)(hx:Loc X.env.scope x)(r:RelV v u)
  (h:∀s',Inv X pins (σ.set i (some v)) H s'->(∃a,Heap.SameBut a s.heap s'.heap/\(a=X.env.locals\/X.env.cells.lookup x=some a))->Q () s') (hf:X.fn x=true\/X.env.scope.names.lookup x=some .local:=by first | exact .inl rfl | exact .inr rfl | assumption):wpAny M A (storeName X.env x u) Q E s:=by
 obtain⟨m,hn,hl⟩:=id I.loc;have hcls:(X.env.scope.kind == .class || (X.env.scope.kind == .module && X.env.locals != X.env.globals))=false:=by rw[I.ok.kind];rfl
 have hiσ:i<σ.length:=by rw[I.len];exact(List.getElem?_eq_some_iff.mp hi).1
 have cne:=I.cne;have tracked:∀{a:Addr} {h':Heap},(∃o,s.heap.get? a=some o/\H a=none)->Heap.SameBut a s.heap h'->HOk X.prog X.w H h':=fun{a h'} ha hs b ob e=>by
  obtain⟨_,_,hfree⟩:=ha;refine(I.hok b ob e).stay (fun c w' hc q=>(hs.2 c ?_).trans q) (fun _ q=>q) fun _ _ q=>q;rintro rfl;rcases hc with rfl | hc
  ·rw[hfree]at e;cases e
  ·rw[hfree]at hc;cases hc
 rcases hx with hk | hk
 ·refine wpAny_storeName_local hk hn (fun h' hn' hs=>?_) hcls;obtain⟨oL,_,_,hoL,_⟩:=id hn;refine h _ ⟨I.ok,I.os,I.bare,⟨fun b o e n hb hx=>?_,fun b o e n hb hx=>?_,I.base.free,fun b o e hx=>?_,I.base.tups,I.base.frzs,I.base.tbls⟩,⟨_,hn',fun j y v' e1 e2 e3=>?_⟩,fun y c e=>?_,I.free,I.freeC,fun p hp=>?_,tracked ⟨oL,hoL,I.free⟩ hs,by simpa using I.len⟩ ⟨_,hs,.inl rfl⟩
  ·exact(hs.2 b (Nat.ne_of_lt (Nat.lt_of_lt_of_le (Heap.lt_size e) I.ok.above))).trans (I.base.keep b o e n hb hx)
  ·obtain⟨sl,e1⟩:=I.base.slot b o e n hb hx;exact⟨sl,(hs.2 b (Nat.ne_of_lt (Nat.lt_of_lt_of_le (Heap.lt_size e) I.ok.above))).trans e1⟩
  ·obtain⟨o',e1⟩:=I.base.there b o e hx;exact⟨o',(hs.2 b (Nat.ne_of_lt (Nat.lt_of_lt_of_le (Heap.lt_size e) I.ok.above))).trans e1⟩
  ·by_cases hj:j=i
   ·subst hj;rw[hi]at e1;cases e1;rw[List.getElem?_set_self hiσ]at e2;cases e2;exact⟨u,r,.inl ⟨hk,by simp⟩⟩
   ·rw[List.getElem?_set_ne (Ne.symm hj)]at e2;obtain⟨u',r',q⟩:=hl j y v' e1 e2 e3;refine⟨u',r',?_⟩;rcases q with ⟨k,e⟩ | ⟨k,c,e,z⟩
    ·refine .inl ⟨k,?_⟩
     have:y≠x:=fun e=>hj (z39 hN e1 (e▸hi));simp[this,e]
    ·exact .inr ⟨k,c,e,z.sameBut hs (cne y c e)⟩
  ·obtain⟨w',z⟩:=I.cell y c e;exact⟨w',z.sameBut hs (cne y c e)⟩
  ·obtain⟨e,n,ne,nf,d⟩:=I.pin p hp;exact⟨(hs.2 p.1 ne).trans e,n,ne,nf,d⟩
 ·have hfn:X.fn x=true:=by
   rcases hf with z | z
   ·exact z
   ·rw[z]at hk;cases hk
  obtain⟨c,hc⟩:=I.ok.has x (.inl hk);obtain⟨w',z⟩:=I.cell x c hc;refine wpAny_storeName_cell I.ok.kind hk hc z (fun h' hc' hs=>?_);obtain⟨oc,hoc,hocd⟩:=id z;refine h { s with heap:=h' } ⟨I.ok,I.os,I.bare,⟨fun b o e n hb hx=>?_,fun b o e n hb hx=>?_,I.base.free,fun b o e hx=>?_,I.base.tups,I.base.frzs,I.base.tbls⟩,⟨m,hn.sameBut hs (Ne.symm (cne x c hc)),fun j y v' e1 e2 e3=>?_⟩,fun y c' e=>?_,I.free,I.freeC,fun p hp=>?_,tracked ⟨oc,hoc,I.freeC x c hc⟩ hs,by simpa using I.len⟩ ⟨c,hs,.inr hc⟩
  ·exact(hs.2 b (Nat.ne_of_lt (Nat.lt_of_lt_of_le (Heap.lt_size e) (I.ok.cab x c hfn hc)))).trans (I.base.keep b o e n hb hx)
  ·obtain⟨sl,e1⟩:=I.base.slot b o e n hb hx;exact⟨sl,(hs.2 b (Nat.ne_of_lt (Nat.lt_of_lt_of_le (Heap.lt_size e) (I.ok.cab x c hfn hc)))).trans e1⟩
  ·obtain⟨o',e1⟩:=I.base.there b o e hx;exact⟨o',(hs.2 b (Nat.ne_of_lt (Nat.lt_of_lt_of_le (Heap.lt_size e) (I.ok.cab x c hfn hc)))).trans e1⟩
  ·by_cases hj:j=i
   ·subst hj;rw[hi]at e1;cases e1;rw[List.getElem?_set_self hiσ]at e2;cases e2;exact⟨u,r,.inr ⟨.inl hk,c,hc,hc'⟩⟩
   ·rw[List.getElem?_set_ne (Ne.symm hj)]at e2;obtain⟨u',r',q⟩:=hl j y v' e1 e2 e3;refine⟨u',r',?_⟩;rcases q with q | ⟨k,c',e,z'⟩
    ·exact .inl q
    ·refine .inr ⟨k,c',e,z'.sameBut hs ?_⟩;rintro rfl;exact hj (z39 hN e1 (I.ok.inj _ _ _ e hc▸hi))
  ·by_cases hcc:c'=c
   ·subst hcc;exact⟨_,hc'⟩
   ·obtain⟨w2,z2⟩:=I.cell y c' e;exact⟨w2,z2.sameBut hs hcc⟩
  ·obtain⟨e,n,ne,nf,d⟩:=I.pin p hp;refine⟨(hs.2 p.1 ?_).trans e,n,ne,nf,d⟩;intro q;rw[q,hoc]at e;have q':oc=p.2:=Option.some.inj e;exact d w' (by rw[<-q'];exact hocd)
theorem z3c{M:Model}{A:Around}{E:Value->Shared->Prop}{i:Nat}{x:Str}{v:V}{u:Value}{Q:Unit->Shared->Prop}(I:Inv X pins σ H s)(hN:X.N.Nodup)(hi:X.N[i]?=some x)(hx:Loc X.env.scope x)(r:RelV v u)
  (h:∀s',Inv X pins (σ.set i (some v)) H s'->Q () s') (hf:X.fn x=true\/X.env.scope.names.lookup x=some .local:=by first | exact .inl rfl | exact .inr rfl | assumption):wpAny M A (storeName X.env x u) Q E s:=
 z1L I hN hi hx r (fun s' I' _=>h s' I') hf
theorem Inv.call'{s':Shared}{ch:List Addr}(I:Inv X pins σ H s)(ho:s'.os=s.os)(u:Un (frs X.stack) ch H H' s.heap s'.heap)(hok:HOk X.prog X.w H' s'.heap)(hg:AllBare s'.gens)
  (hch:∀b∈ch,(b∈X.ex\/X.s₀.heap.objs.size<=b)/\b≠X.env.locals/\(∀x c,X.env.cells.lookup x=some c->c≠b)/\∀p∈X.pn++pins,p.1≠b):Inv X pins σ H' s':=by
 obtain⟨h',g',d',t',o'⟩:=s';have e:o'=s.os:=ho;subst e;exact I.call (g':=g') (t':=t') (d':=d') u hok hg hch
end
noncomputable abbrev XK:=Value->Option Addr->Hp->Prop
noncomputable abbrev St:=List (Option V)
noncomputable abbrev VK:=V->Hp->Prop
noncomputable abbrev TE:=St->Hp->VK->Prop
noncomputable abbrev TT:=St->Hp->(Bool->Hp->Prop)->Prop
noncomputable abbrev TA:=St->Hp->(List V->Hp->Prop)->Prop
structure Ends where
 nx:St->Hp->Prop
 rt:VK
 bk:St->Hp->Prop:=fun _ _=>False
 ct:St->Hp->Prop:=fun _ _=>False
noncomputable abbrev TS:=Ends->St->Hp->Prop
def EP(X:Cx)(pins:List (Addr×Obj))(σ:St)(Q:VK)(u:Value)(s':Shared):Prop:=∃v H',Inv X pins σ H' s'/\RelV v u/\Q v H'
def TP(X:Cx)(pins:List (Addr×Obj))(σ:St)(Q:Bool->Hp->Prop)(b:Bool)(s':Shared):Prop:=∃H',Inv X pins σ H' s'/\Q b H'
def AP(X:Cx)(pins:List (Addr×Obj))(σ:St)(Q:List V->Hp->Prop)(us:List Value)(s':Shared):Prop:=∃vs H',Inv X pins σ H' s'/\Vals vs us/\Q vs H'
def SP(X:Cx)(pins:List (Addr×Obj))(D:Ends)(f:Flow)(s':Shared):Prop:=
 match f with
 | .next=>∃σ' H',Inv X pins σ' H' s'/\D.nx σ' H'
 | .brk=>∃σ' H',Inv X pins σ' H' s'/\D.bk σ' H'
 | .cont=>∃σ' H',Inv X pins σ' H' s'/\D.ct σ' H'
 | .ret u=>∃v σ' H',Inv X pins σ' H' s'/\RelV v u/\D.rt v H'
def PE(X:Cx)(e:Expr)(t:TE):Prop:=
 ∀(pins:List (Addr×Obj)) (s:Shared) (σ:St) (H:Hp) (Q:VK),Inv X pins σ H s->t σ H Q->wpAny (model X.prog X.w) X.A (eval e X.env) (EP X pins σ Q) X.xe s
def PT(X:Cx)(e:Expr)(t:TT):Prop:=
 ∀(pins:List (Addr×Obj)) (s:Shared) (σ:St) (H:Hp) (Q:Bool->Hp->Prop),Inv X pins σ H s->t σ H Q->wpAny (model X.prog X.w) X.A (isTrue e X.env (eval e X.env)) (TP X pins σ Q) X.xe s
def PW(X:Cx)(e:Expr)(t:TT):Prop:=
 ∀(whole:Sem Value) (pins:List (Addr×Obj)) (s:Shared) (σ:St) (H:Hp) (Q:Bool->Hp->Prop),Inv X pins σ H s->t σ H Q->wpAny (model X.prog X.w) X.A (isTrue e X.env whole) (TP X pins σ Q) X.xe s
theorem PW.pt{X:Cx}{e:Expr}{t:TT}(h:PW X e t):PT X e t:=h _
def PA(X:Cx)(es:List Expr)(t:TA):Prop:=
 ∀(pos:Pos) (pins:List (Addr×Obj)) (s:Shared) (σ:St) (H:Hp) (Q:List V->Hp->Prop),Inv X pins σ H s->t σ H Q->wpAny (model X.prog X.w) X.A (spliced (backTo pos (starEach es X.env))) (AP X pins σ Q) X.xe s
def PS(X:Cx)(st:Stmt)(t:TS):Prop:=
 ∀(pins:List (Addr×Obj)) (s:Shared) (σ:St) (H:Hp) (D:Ends),Inv X pins σ H s->t D σ H->wpAny (model X.prog X.w) X.A (exec st X.env) (SP X pins D) X.xe s
def PSs(X:Cx)(st:List Stmt)(t:TS):Prop:=
 ∀(pins:List (Addr×Obj)) (s:Shared) (σ:St) (H:Hp) (D:Ends),Inv X pins σ H s->t D σ H->wpAny (model X.prog X.w) X.A (execs st X.env) (SP X pins D) X.xe s
theorem thn{α:Type}{t:Sem α}{Q Q':α->Shared->Prop}{M:Model}{A:Around}{E:Value->Shared->Prop}{s:Shared}(h:wpAny M A t Q E s)(hQ:∀a s,Q a s->Q' a s):wpAny M A t Q' E s:=wpAny_mono h hQ fun _ _ x=>x
section
variable{X:Cx}
noncomputable def tVar(i:Nat):TE:=fun σ H Q=>∃v,σ[i]?=some (some v)/\Q v H
noncomputable def tC(v:V):TE:=fun _ H Q=>Q v H
theorem zBo{i:Nat}{x:Str}{pos:Pos}(hN:X.N[i]?=some x)(hv:Vis X.env.scope x)(hd:(x == ("__debug__":Str))=false:=by decide)(hcd:(x == ("__classdict__":Str))=false:=by decide):PE X (.Name x pos) (tVar i):=by
 intro pins s σ H Q I h;obtain⟨v,e,h⟩:=h;obtain⟨m,hn,hl⟩:=I.loc;obtain⟨u,r,l⟩:=hl i x v hN e hv;have fin:EP X pins σ Q u s:=⟨v,H,I,r,h⟩;rcases l with ⟨hk,hm⟩ | ⟨hk,c,hc,hcell⟩
 ·exact wpAny_Name (wpAny_loadName_local I.ok.kind hk hn hm fin) hd
 ·rcases hk with hk | hk
  ·exact wpAny_Name (wpAny_loadName_cell I.ok.kind hk hc hcell fin) hd
  ·exact wpAny_Name (wpAny_loadName_free I.ok.kind hk hc hcell fin hcd) hd
theorem z24{i j pos}:PE X (.Constant (.int i) j pos) (tC (.int i)):=fun _ _ _ H _ I h=>wpAny_Constant_int ⟨.int i,H,I.tok _,⟨_,rfl⟩,h⟩
theorem zAf{b j pos}:PE X (.Constant (.bool b) j pos) (tC (.bl b)):=fun _ _ _ H _ I h=>Constant_bool ⟨.bl b,H,I,rfl,h⟩
theorem z8w{j pos}:PE X (.Constant .none j pos) (tC .non):=fun _ _ _ H _ I h=>Constant_none ⟨.non,H,I,rfl,h⟩
theorem zAl{x j pos}:PE X (.Constant (.str x) j pos) (tC (.str x)):=fun _ _ _ H _ I h=>Calls.Constant_str ⟨.str x,H,I.tok _,⟨_,rfl⟩,h⟩
def Gl(X:Cx)(x:Str):Prop:=X.env.kindOf x=some .globalImplicit
theorem z64{E:Value->Shared->Prop}{pins:List (Addr×Obj)}{s:Shared}{σ:St}{H:Hp}{x:Str}{u:Value}{pos:Pos}{Q:Value->Shared->Prop}(I:Inv X pins σ H s)(hg:Gl X x)(hm:X.mg x=some u)(h:Q u s)
  (hd:(x == ("__debug__":Str))=false:=by decide):wpAny (model X.prog X.w) X.A (eval (.Name x pos) X.env) Q E s:=
 Calls.Name_function_global I.ok.kind hg (Calls.loadGlobal_global (by rw[I.ok.glob];exact I.mod.glob.keeps I.bk) hm h) hd
theorem uh{E:Value->Shared->Prop}{pins:List (Addr×Obj)}{s:Shared}{σ:St}{H:Hp}{x:Str}{u:Value}{pos:Pos}{Q:Value->Shared->Prop}(I:Inv X pins σ H s)(hg:Gl X x)(hm:X.mg x=none)(hv:bootBuiltins x=some u)(h:Q u s)
  (hn:x≠"__name__":=by decide) (hd:(x == ("__debug__":Str))=false:=by decide):wpAny (model X.prog X.w) X.A (eval (.Name x pos) X.env) Q E s:=by
 obtain⟨mb,h1,h2⟩:=I.mod.blt;exact Calls.Name_function_global I.ok.kind hg (Calls.loadGlobal_builtin (by rw[I.ok.glob];exact I.mod.glob.keeps I.bk) hm (by rw[I.ok.blt];exact h1.keeps I.bk) ((h2 x hn).trans hv) h) hd
theorem z2s{x:Str}{v:V}{u:Value}{pos:Pos}(hg:Gl X x)(hm:X.mg x=some u)(r:RelV v u)(hd:(x == ("__debug__":Str))=false:=by decide):PE X (.Name x pos) (tC v):=
 fun _ _ _ H _ I h=>z64 I hg hm ⟨v,H,I,r,h⟩ hd
theorem xc{x:Str}{v:V}{u:Value}{pos:Pos}(hg:Gl X x)(hm:X.mg x=none)(hv:bootBuiltins x=some u)(r:RelV v u)(hn:x≠"__name__":=by decide)(hd:(x == ("__debug__":Str))=false:=by decide):PE X (.Name x pos) (tC v):=
 fun _ _ _ H _ I h=>uh I hg hm hv ⟨v,H,I,r,h⟩ hn hd
variable{a b:Expr}{ta tb:TE}{pos:Pos}
variable{tA tB':TT}{rest:List Expr}
noncomputable def tAnd(t u:TT):TT:=fun σ H Q=>t σ H fun c H1=>if c=true then u σ H1 Q else Q false H1
noncomputable def tOr(t u:TT):TT:=fun σ H Q=>t σ H fun c H1=>if c=true then Q true H1 else u σ H1 Q
noncomputable def tNot(t:TT):TT:=fun σ H Q=>t σ H fun c H1=>Q (!c) H1
theorem z9j(ha:PT X a tA):PW X (.BoolOp .And [a] pos) tA:=by
 intro wh pins s σ H Q I h;refine isTrue_and (thn (ha pins s σ H Q I h) fun c s1 e=>?_);cases c with
 | true=>exact isTrue_and_nil e
 | false=>exact e
theorem zAS(ha:PT X a tA):PW X (.BoolOp .Or [a] pos) tA:=by
 intro wh pins s σ H Q I h;refine isTrue_or (thn (ha pins s σ H Q I h) fun c s1 e=>?_);cases c with
 | false=>exact isTrue_or_nil e
 | true=>exact e
theorem zAy(ha:PT X a tA)(hb:PW X (.BoolOp .And (b::rest) pos) tB'):PW X (.BoolOp .And (a::b::rest) pos) (tAnd tA tB'):=by
 intro wh pins s σ H Q I h;refine isTrue_and (thn (ha pins s σ H _ I h) fun c s1 ⟨H1,I1,q1⟩=>?_);cases c with
 | true=>exact hb wh pins s1 σ H1 Q I1 q1
 | false=>exact⟨H1,I1,q1⟩
theorem zD6(ha:PT X a tA)(hb:PW X (.BoolOp .Or (b::rest) pos) tB'):PW X (.BoolOp .Or (a::b::rest) pos) (tOr tA tB'):=by
 intro wh pins s σ H Q I h;refine isTrue_or (thn (ha pins s σ H _ I h) fun c s1 ⟨H1,I1,q1⟩=>?_);cases c with
 | true=>exact⟨H1,I1,q1⟩
 | false=>exact hb wh pins s1 σ H1 Q I1 q1
theorem zBH(ha:PT X a tA):PT X (.UnaryOp .Not a pos) (tNot tA):=by
 intro pins s σ H Q I h;exact isTrue_not (ha pins s σ H (fun c H1=>Q (!c) H1) I h)
noncomputable def zD4(ta tb:TE):TE:=fun σ H Q=>ta σ H fun x H1=>∃c,x=.bl c/\if c=true then tb σ H1 Q else Q (.bl false) H1
theorem zBp{op}{t:TE}(h:PE X a t):PE X (.BoolOp op [a] pos) t:=fun pins s σ H Q I hw=>BoolOp_one (h pins s σ H Q I hw)
theorem zBs(ha:PE X a ta)(hb:PE X (.BoolOp .And (b::rest) pos) tb):PE X (.BoolOp .And (a::b::rest) pos) (zD4 ta tb):=by
 intro pins s σ H Q I h;refine BoolOp_and (thn (ha pins s σ H _ I h) fun v s1 ⟨x,H1,I1,r1,q1⟩=>?_);obtain⟨c,rfl,q1⟩:=q1;cases r1;refine wpAny_truthy_bool ?_;cases c with
 | true=>exact hb pins s1 σ H1 Q I1 q1
 | false=>exact⟨.bl false,H1,I1,rfl,q1⟩
noncomputable def tIf(t:TT)(ta tb:TE):TE:=fun σ H Q=>t σ H fun c H1=>if c=true then ta σ H1 Q else tb σ H1 Q
theorem z75{c:Expr}(hc:PT X c tA)(ha:PE X a ta)(hb:PE X b tb):PE X (.IfExp c a b pos) (tIf tA ta tb):=by
 intro pins s σ H Q I h;refine wpAny_IfExp (thn (hc pins s σ H _ I h) fun d s1 ⟨H1,I1,q1⟩=>?_);cases d with
 | true=>exact ha pins s1 σ H1 Q I1 q1
 | false=>exact hb pins s1 σ H1 Q I1 q1
end
def SqL(K:W.Frag)(H:Hp)(a:Addr)(xs:List V):Prop:=
 Rd H a (.lst xs)\/
  ∃(o:Obj) (its:Array Value) (n:Nat),K.lookup a=some o/\o.cls=.type "list"/\o.dict=none/\o.data=.seq its n/\its.size<=sizeLine/\Vals xs its.toList
def SqT(K:W.Frag)(H:Hp)(a:Addr)(xs:List V):Prop:=
 Rd H a (.tup xs)\/
  ∃(o:Obj) (its:Array Value) (n:Nat),K.lookup a=some o/\o.cls=.type "tuple"/\o.data=.seq its n/\its.size<=sizeLine/\Vals xs its.toList
noncomputable def absV:Value->Option V
 | .none=>some .non
 | .bool b=>some (.bl b)
 | .int i _=>some (.int i)
 | .str x _=>some (.str x)
 | .bytes b _=>some (.byt b)
 | .float b _=>some (.flt b)
 | .ref a=>some (.ref a)
 | .type n=>some (.ty n)
 | _=>none
theorem RelV.abs{x:V}{u:Value}(r:RelV x u):absV u=some x:=by
 cases x with
 | non=>cases r;rfl
 | bl _=>cases r;rfl
 | int _=>obtain⟨t,rfl⟩:=r;rfl
 | str _=>obtain⟨t,rfl⟩:=r;rfl
 | byt _=>obtain⟨t,rfl⟩:=r;rfl
 | flt _=>obtain⟨t,rfl⟩:=r;rfl
 | ref _=>cases r;rfl
 | ty _=>cases r;rfl
theorem RelV.inj{x y:V}{u:Value}(r:RelV x u)(q:RelV y u):x=y:=Option.some.inj (r.abs.symm.trans q.abs)
theorem Vals.inj:∀{xs ys:List V} {us:List Value},Vals xs us->Vals ys us->xs=ys
 | _,_,_,.nil,.nil=>rfl
 | _,_,_,.cons r t,.cons r' t'=>by rw[r.inj r',Vals.inj t t']
section
variable{X:Cx}{pins:List (Addr×Obj)}{σ:St}{H:Hp}{s:Shared}{a:Addr}{xs ys:List V}
theorem SqL.of{K:W.Frag}(h:H a=some (.lst xs)):SqL K H a xs:=.inl (.inl h)
theorem SqT.of{K:W.Frag}(h:H a=some (.tup xs)):SqT K H a xs:=.inl (.inl h)
theorem Inv.list(I:Inv X pins σ H s)(h:SqL X.K H a xs):∃its:List Value,Vals xs its/\PlainL s.heap a its.toArray/\xs.length<=sizeLine:=by
 rcases h with h | ⟨o,its,n,hk,hc,hd,hs,hz,r⟩
 ·obtain⟨z,its,n,r,e⟩:=h.ok I.hok;exact⟨its,r,⟨_,n,e,rfl,rfl,rfl⟩,z⟩
 ·refine⟨its.toList,r,⟨o,n,I.kIn a o hk,hc,hd,by simpa using hs⟩,?_⟩;have e:=r.length;simp only[Array.length_toList]at e;omega
theorem Inv.tuple(I:Inv X pins σ H s)(h:SqT X.K H a xs):∃its:List Value,Vals xs its/\IsTup s.heap a its.toArray/\xs.length<=sizeLine:=by
 rcases h with h | ⟨o,its,n,hk,hc,hs,hz,r⟩
 ·obtain⟨⟨z,_⟩,its,r,p⟩:=h.ok I.hok;exact⟨its,r,p,z⟩
 ·refine⟨its.toList,r,⟨o,I.kIn a o hk,hc,n,by simpa using hs⟩,?_⟩;have e:=r.length;simp only[Array.length_toList]at e;omega
theorem Inv.list_inj(I:Inv X pins σ H s)(h:SqL X.K H a xs)(h':SqL X.K H a ys):xs=ys:=by
 obtain⟨its,r,⟨o,n,e,_,_,d⟩,_⟩:=I.list h;obtain⟨its',r',⟨o',n',e',_,_,d'⟩,_⟩:=I.list h';rw[e]at e';cases e';rw[d]at d';injection d' with d1 _
 have:its=its':=by simpa using congrArg Array.toList d1
 subst this;exact r.inj r'
theorem Inv.tuple_inj(I:Inv X pins σ H s)(h:SqT X.K H a xs)(h':SqT X.K H a ys):xs=ys:=by
 obtain⟨its,r,⟨o,e,_,n,d⟩,_⟩:=I.tuple h;obtain⟨its',r',⟨o',e',_,n',d'⟩,_⟩:=I.tuple h';rw[e]at e';cases e';rw[d]at d';injection d' with d1 _
 have:its=its':=by simpa using congrArg Array.toList d1
 subst this;exact r.inj r'
end
noncomputable abbrev Cx.wish(X:Cx)(E:Value->Shared->Prop):Cx:={ X with xe:=E }
noncomputable abbrev Cx.nox(X:Cx):Cx:=X.wish fun _ _=>False
theorem Cx.Ok.wish{X:Cx}(ok:X.Ok)(E:Value->Shared->Prop):(X.wish E).Ok:=
 ⟨ok.mod,ok.kind,ok.glob,ok.blt,ok.above,ok.inj,ok.has,ok.cab,ok.hd,ok.frames,ok.stk,ok.exf,ok.bs,ok.bsz,ok.noex,ok.exfs,ok.funs,ok.frf⟩
theorem Cx.Ok.unwish{X:Cx}{E:Value->Shared->Prop}(ok:(X.wish E).Ok):X.Ok:=
 ⟨ok.mod,ok.kind,ok.glob,ok.blt,ok.above,ok.inj,ok.has,ok.cab,ok.hd,ok.frames,ok.stk,ok.exf,ok.bs,ok.bsz,ok.noex,ok.exfs,ok.funs,ok.frf⟩
section
variable{X:Cx}{pins:List (Addr×Obj)}{σ:St}{H:Hp}{s:Shared}{E:Value->Shared->Prop}
theorem Inv.wish(I:Inv X pins σ H s)(E:Value->Shared->Prop):Inv (X.wish E) pins σ H s:=⟨I.ok.wish E,I.os,I.bare,I.base,I.loc,I.cell,I.free,I.freeC,I.pin,I.hok,I.len⟩
theorem Inv.unwish(I:Inv (X.wish E) pins σ H s):Inv X pins σ H s:=⟨I.ok.unwish,I.os,I.bare,I.base,I.loc,I.cell,I.free,I.freeC,I.pin,I.hok,I.len⟩
theorem SP.unwish{D:Ends}{f:Flow}{s':Shared}(h:SP (X.wish E) pins D f s'):SP X pins D f s':=by
 cases f with
 | next=>obtain⟨σ',H',I,q⟩:=h;exact⟨σ',H',I.unwish,q⟩
 | brk=>obtain⟨σ',H',I,q⟩:=h;exact⟨σ',H',I.unwish,q⟩
 | cont=>obtain⟨σ',H',I,q⟩:=h;exact⟨σ',H',I.unwish,q⟩
 | ret u=>obtain⟨v,σ',H',I,r,q⟩:=h;exact⟨v,σ',H',I.unwish,r,q⟩
theorem PSs.nox{st:List Stmt}{t:TS}(h:PSs X.nox st t):PSs X st t:=fun pins s σ H D I hw=>
 wpAny_mono (h pins s σ H D (I.wish _) hw) (fun _ _ q=>q.unwish) fun _ _ z=>False.elim z
end
section
variable{X:Cx}{st:Stmt}{rest:List Stmt}{t u:TS}{e:Expr}{te:TE}{pos:Pos}
noncomputable def zCa:TS:=fun D σ H=>D.nx σ H
noncomputable def tSeq(t u:TS):TS:=fun D σ H=>t { D with nx:=u D } σ H
theorem pss_nil:PSs X [] zCa:=fun _ _ σ H _ I h=>wpAny_execs_nil ⟨σ,H,I,h⟩
theorem uJ(h1:PS X st t)(h2:PSs X rest u):PSs X (st::rest) (tSeq t u):=by
 intro pins s σ H D I h;refine wpAny_execs_cons (thn (h1 pins s σ H { D with nx:=u D } I h) fun f s1 q=>?_);cases f with
 | next=>
  obtain⟨σ',H',I',q⟩:=q;exact h2 pins s1 σ' H' D I' q
 | ret v=>exact q
 | brk=>exact q
 | cont=>exact q
theorem z0j(h1:PS X st t):PSs X [st] t:=by
 intro pins s σ H D I h;refine wpAny_execs_cons (thn (h1 pins s σ H D I h) fun f s1 q=>?_);cases f with
 | next=>exact wpAny_execs_nil q
 | ret v=>exact q
 | brk=>exact q
 | cont=>exact q
theorem Inv.quiet{pins:List (Addr×Obj)}{σ:St}{H:Hp}{s:Shared}(I:Inv X pins σ H s):interactive X.env=false:=by simp[interactive,I.ok.kind]
noncomputable def zCr(te:TE):TS:=fun D σ H=>te σ H fun _ H1=>D.nx σ H1
theorem z13(he:PE X e te)(hs:swapsWith e none pos.line X.env=pure false:=by rfl):PS X (.Expr e pos) (zCr te):=by
 intro pins s σ H D I h;exact wpAny_Expr_any (thn (he pins s σ H _ I h) fun v s1 ⟨x,H1,I1,r1,q1⟩=>⟨σ,H1,I1,q1⟩) I.quiet hs
noncomputable def tRet(te:TE):TS:=fun D σ H=>te σ H D.rt
theorem z3C(he:PE X e te):PS X (.Return (some e) pos) (tRet te):=by
 intro pins s σ H D I h;exact wpAny_Return_some (thn (he pins s σ H _ I h) fun v s1 ⟨x,H1,I1,r1,q1⟩=>⟨x,σ,H1,I1,r1,q1⟩)
noncomputable def tIfS(c:TT)(t u:TS):TS:=fun D σ H=>c σ H fun b H1=>if b=true then t D σ H1 else u D σ H1
theorem z9b{c:Expr}{a b:List Stmt}{tc:TT}(hc:PT X c tc)(ha:PSs X a t)(hb:PSs X b u):PS X (.If c a b pos) (tIfS tc t u):=by
 intro pins s σ H D I h;refine wpAny_If (thn (hc pins s σ H _ I h) fun d s1 ⟨H1,I1,q1⟩=>?_);cases d with
 | true=>exact ha pins s1 σ H1 D I1 q1
 | false=>exact hb pins s1 σ H1 D I1 q1
noncomputable def zCC:TS:=fun _ _ _=>False
theorem ps_never:PS X st zCC:=fun _ _ _ _ _ _ h=>h.elim
end
noncomputable abbrev TG:=V->St->Hp->(St->Hp->Prop)->Prop
noncomputable abbrev TGs:=List V->St->Hp->(St->Hp->Prop)->Prop
def PG(X:Cx)(target:Expr)(t:TG):Prop:=
 ∀(pins:List (Addr×Obj)) (s:Shared) (σ:St) (H:Hp) (v:V) (u:Value) (Q:St->Hp->Prop),Inv X pins σ H s->RelV v u->t v σ H Q->
  wpAny (model X.prog X.w) X.A (assign target X.env u) (fun _ s'=>∃σ' H',Inv X pins σ' H' s'/\Q σ' H') X.xe s
def PGs(X:Cx)(ts:List Expr)(t:TGs):Prop:=
 ∀(pins:List (Addr×Obj)) (s:Shared) (σ:St) (H:Hp) (vs:List V) (us:List Value) (Q:St->Hp->Prop),Inv X pins σ H s->Vals vs us->t vs σ H Q->
  wpAny (model X.prog X.w) X.A (assignInOrder ((assignEach ts X.env).map (·.2)) us) (fun _ s'=>∃σ' H',Inv X pins σ' H' s'/\Q σ' H') X.xe s
noncomputable abbrev TSet:=V->V->V->Hp->(Hp->Prop)->Prop
def PSet(X:Cx)(t:TSet):Prop:=
 ∀(pins:List (Addr×Obj)) (s:Shared) (σ:St) (H:Hp) (o i v:V) (ov iv u:Value) (Q:Hp->Prop),Inv X pins σ H s->RelV o ov->RelV i iv->RelV v u->t o i v H Q->
  wpAny (model X.prog X.w) X.A (setItem ov iv u) (fun _ s'=>∃H',Inv X pins σ H' s'/\Q H') X.xe s
section
variable{X:Cx}{pos:Pos}
noncomputable def z1G(i:Nat):TG:=fun v σ H Q=>Q (σ.set i (some v)) H
theorem yc{i:Nat}{x:Str}(hN:X.N.Nodup)(hi:X.N[i]?=some x)(hx:Loc X.env.scope x)(hf:X.fn x=true\/X.env.scope.names.lookup x=some .local:=by first | exact .inl rfl | exact .inr rfl | assumption):PG X (.Name x pos) (z1G i):=by
 intro pins s σ H v u Q I r h;exact wpAny_assign_Name (z3c I hN hi hx r (fun s' I'=>⟨_,H,I',h⟩) hf)
noncomputable def gNil:TGs:=fun vs σ H Q=>vs=[]/\Q σ H
noncomputable def z9U(t:TG)(u:TGs):TGs:=fun vs σ H Q=>∃v r,vs=v::r/\t v σ H fun σ' H'=>u r σ' H' Q
theorem z9i:PGs X [] gNil:=by
 intro pins s σ H vs us Q I r h;obtain⟨e,h⟩:=h;subst e;cases r;exact assignInOrder_nil ⟨σ,H,I,h⟩
theorem z3M{e:Expr}{es:List Expr}{t:TG}{u:TGs}(h1:PG X e t)(h2:PGs X es u)
  (hs:(assignEach (e::es) X.env).map (·.2)=assign e X.env::(assignEach es X.env).map (·.2):=by rfl):PGs X (e::es) (z9U t u):=by
 intro pins s σ H vs us Q I r h;obtain⟨v,vr,e1,h⟩:=h;subst e1;cases r with
 | cons r rr=>
  rw[hs];refine assignInOrder_cons (thn (h1 pins s σ H _ _ _ I r h) fun _ s1 ⟨σ1,H1,I1,q1⟩=>?_);exact h2 pins s1 σ1 H1 _ _ Q I1 rr q1
noncomputable def gTup(K:W.Frag)(n:Nat)(t:TGs):TG:=fun v σ H Q=>∃a xs,v=.ref a/\SqT K H a xs/\xs.length=n/\t xs σ H Q
theorem zBW{es:List Expr}{k:Nat}{t:TGs}{n:Nat}(hc:X.calm=true)(h:PGs X es t)
  (hn:(assignEach es X.env).length=n:=by rfl) (hst:(assignEach es X.env).findIdx? (·.1)=none:=by rfl):PG X (.Tuple es k pos) (gTup X.K n t):=by
 intro pins s σ H v u Q I r hw;obtain⟨a,xs,e1,hq,hl,hw⟩:=hw;subst e1;cases r;obtain⟨its,rv,ht,hz⟩:=I.tuple hq;refine assign_Tuple_tuple (I.ok.hd hc) ht (by simp[hn,<-hl,rv.length]) hst fun h' hx=>?_;have I1:Inv X pins σ H { s with heap:=h' }:=I.kept (t':=s.toks) fun b o e=>hx b o (Nat.ne_of_lt (Heap.lt_size e)) e;exact h pins _ σ H xs _ Q I1 (by simpa using rv) hw
noncomputable def gSub(to ti:TE)(t:TSet):TG:=fun v σ H Q=>to σ H fun o H1=>ti σ H1 fun i H2=>t o i v H2 fun H3=>Q σ H3
theorem zBJ{o i:Expr}{to ti:TE}{t:TSet}(ho:PE X o to)(hi:PE X i ti)(hs:PSet X t)
  (ha:∀v,assign (.Subscript o i pos) X.env v=(do
   let ov<-holding [v] (eval o X.env)
   let iv<-holding [v,ov] (eval i X.env)
   standAt pos
   holding [v,ov,iv] (setItem ov iv v)
   release [v,ov,iv] []):=by intro _;rfl):PG X (.Subscript o i pos) (gSub to ti t):=by
 intro pins s σ H v u Q I r h;rw[ha];refine wpAny_bind (wpAny_holding (thn (ho pins s σ H _ I h) fun ov s1 ⟨x,H1,I1,r1,q1⟩=>?_));refine wpAny_bind (wpAny_holding (thn (hi pins s1 σ H1 _ I1 q1) fun iv s2 ⟨y,H2,I2,r2,q2⟩=>?_));refine wpAny_bind (wpAny_standAt (wpAny_bind (wpAny_holding (thn (hs pins s2 σ H2 x y v ov iv u _ I2 r1 r2 r q2) fun _ s3 ⟨H3,I3,q3⟩=>?_))));exact wpAny_release ⟨σ,H3,I3,q3⟩
noncomputable def tAsg(te:TE)(g:TG):TS:=fun D σ H=>te σ H fun x H1=>g x σ H1 D.nx
theorem zBm{tg e:Expr}{te:TE}{g:TG}(he:PE X e te)(hg:PG X tg g)(hs:swapsWithSole [tg] e pos.line X.env=pure false:=by rfl)(hw:swappedStores [tg] e X.env=pure none:=by rfl)
  (h1:(assignEach [tg] X.env).map (·.2)=[assign tg X.env]:=by rfl):PS X (.Assign [tg] e pos) (tAsg te g):=by
 intro pins s σ H D I h;refine wpAny_Assign_stores (thn (he pins s σ H _ I h) fun v s1 ⟨x,H1,I1,r1,q1⟩=>?_) hs hw;rw[h1];exact thn (hg pins s1 σ H1 x v _ I1 r1 q1) fun _ s2 q=>q
theorem z29{i:Nat}{x:Str}{e:Expr}{te:TE}{pos':Pos}(hN:X.N.Nodup)(hi:X.N[i]?=some x)(hx:Loc X.env.scope x)(he:PE X e te)(hs:swapsWith e (some (.Name x pos')) pos.line X.env=pure false:=by rfl)(hf:X.fn x=true\/X.env.scope.names.lookup x=some .local:=by first | exact .inl rfl | exact .inr rfl | assumption):
  PS X (.Assign [.Name x pos'] e pos) (tAsg te (z1G i)):=by
 intro pins s σ H D I h;refine wpAny_Assign_Name (thn (he pins s σ H _ I h) fun v s1 ⟨y,H1,I1,r1,q1⟩=>?_) hs;exact z3c I1 hN hi hx r1 (fun s2 I2=>⟨_,H1,I2,q1⟩) hf
end
section
variable{X:Cx}{pos:Pos}
noncomputable def z8r(c:TT)(tb:TS):TS:=fun D σ H=>∃W:Nat->St->Hp->Prop,(∃m,W m σ H)/\∀m σ H,W m σ H->
 c σ H fun b H1=>if b=true then ∃N:St->Hp->Prop,(∀σ' H',N σ' H'->∃m',m'<m/\W m' σ' H')/\tb { D with nx:=N,ct:=N,bk:=D.nx } σ H1 else D.nx σ H1
theorem z88{c:Expr}{body:List Stmt}{tc:TT}{tb:TS}(hp:PassesOwn (model X.prog X.w) X.A X.env X.xe)(hc:PT X c tc)(hb:PSs X body tb):PS X (.While c body [] pos) (z8r tc tb):=by
 intro pins s σ H D I h;obtain⟨W,⟨m0,w0⟩,turn⟩:=h;refine wpAny_While (codeAny_whileLoop (fun n s'=>∃σ' H',Inv X pins σ' H' s'/\W n σ' H') ?_ m0 ⟨σ,H,I,w0⟩);rintro n s1 ⟨σ1,H1,I1,w1⟩;refine wpAny_passesOwn hp (thn (hc pins s1 σ1 H1 _ I1 (turn n σ1 H1 w1)) fun b s2 ⟨H2,I2,q2⟩=>?_);cases b with
 | true=>
  obtain⟨N,hN,q2⟩:=q2;rw[if_pos rfl];refine wpAny_passesOwn hp (thn (hb pins s2 σ1 H2 _ I2 q2) fun f s3 q3=>?_);cases f with
  | next=>
   obtain⟨σ3,H3,I3,n3⟩:=q3;obtain⟨m',hm,w3⟩:=hN σ3 H3 n3;exact⟨m',hm,σ3,H3,I3,w3⟩
  | cont=>
   obtain⟨σ3,H3,I3,n3⟩:=q3;obtain⟨m',hm,w3⟩:=hN σ3 H3 n3;exact⟨m',hm,σ3,H3,I3,w3⟩
  | brk=>exact q3
  | ret v=>exact q3
 | false=>
  rw[if_neg Bool.false_ne_true];exact wpAny_execs_nil ⟨σ1,H2,I2,q2⟩
end
structure It where
 go:Nat->Hp->Prop
 yld:Nat->Hp->V->Hp->Prop
 stop:Nat->Hp->Prop
def FpOk(X:Cx)(pins:List (Addr×Obj))(H:Hp)(b:Addr):Prop:=
 H b=none/\b≠X.env.locals/\b∉X.fs/\(b∈X.ex\/X.s₀.heap.objs.size<=b)/\(∀x c,X.env.cells.lookup x=some c->c≠b)/\∀p∈X.pn++pins,p.1≠b
theorem Inv.fpOk{X:Cx}{pins:List (Addr×Obj)}{σ:St}{H H':Hp}{s:Shared}{b:Addr}(I:Inv X pins σ H s)(hb:s.heap.objs.size<=b)(hn:H' b=none):FpOk X pins H' b:=by
 refine⟨hn,Nat.ne_of_gt (Nat.lt_of_lt_of_le I.lt hb),I.nofs hb,.inr (Nat.le_trans I.sz hb),fun x c e z=>?_,fun p hp z=>?_⟩
 ·obtain⟨v,q⟩:=I.cell x c e;exact absurd (Nat.lt_of_lt_of_le q.lt (by rw[z];exact hb)) (Nat.lt_irrefl _)
 ·exact absurd (Nat.lt_of_lt_of_le (Heap.lt_size (I.pin p hp).1) (by rw[z];exact hb)) (Nat.lt_irrefl _)
structure Turn(P:Program)(w:World)(K:W.Frag)(tg:Expr)(J:It)(fp:List Addr)(it:Addr)(tn:Nat->Heap->Prop):Prop where
 mem:it∈fp
 obj:∀i h,tn i h->∀b∈fp,∃o,h.get? b=some o/\∀v,o.data≠.cell v
 keep:∀i h h',tn i h->(∀b∈fp,∀o,h.get? b=some o->h'.get? b=some o)->tn i h'
 item:∀(X:Cx),X.prog=P->X.w=w->X.K=K->X.calm=true->∀(i:Nat) (pins:List (Addr×Obj)) (s:Shared) (σ:St) (H:Hp) (E:Value->Shared->Prop),Inv X pins σ H s->(∀b∈fp,FpOk X pins H b)->tn i s.heap->J.go i H->
  wpAny (model P w) X.A (pyNext (.ref it)) (fun r s1=>∃u,r=some u/\
   wpAny (model P w) X.A (letOwnedTupleGo tg (.ref it) u) (fun _ s2=>∃x H',Inv X pins σ H' s2/\RelV x u/\J.yld i H x H'/\tn (i+1) s2.heap/\∀b∈fp,H' b=none) E s1) E s
 done:∀(X:Cx),X.prog=P->X.w=w->X.K=K->X.calm=true->∀(i:Nat) (pins:List (Addr×Obj)) (s:Shared) (σ:St) (H:Hp) (E:Value->Shared->Prop),Inv X pins σ H s->(∀b∈fp,FpOk X pins H b)->tn i s.heap->J.stop i H->
  wpAny (model P w) X.A (pyNext (.ref it)) (fun r s1=>r=none/\Inv X pins σ H s1) E s
 self:∀(A:Around) (i:Nat) (s:Shared) (Q:Value->Shared->Prop) (E:Value->Shared->Prop),tn i s.heap->Q (.ref it) s->wpAny (model P w) A (pyIter (.ref it)) Q E s
noncomputable abbrev TI:=St->Hp->(It->Hp->Prop)->Prop
def PIE(X:Cx)(pins:List (Addr×Obj))(σ:St)(tg:Expr)(R:It->Hp->Prop)(itv:Value)(s2:Shared):Prop:=
 ∃(it:Addr) (fp:List Addr) (tn:Nat->Heap->Prop) (J:It) (H':Hp),itv=.ref it/\Inv X pins σ H' s2/\Turn X.prog X.w X.K tg J fp it tn/\tn 0 s2.heap/\(∀b∈fp,FpOk X pins H' b)/\R J H'
def PI(X:Cx)(tg iter:Expr)(wi:TI):Prop:=
 ∀(pins:List (Addr×Obj)) (s:Shared) (σ:St) (H:Hp) (R:It->Hp->Prop),Inv X pins σ H s->wi σ H R->
  wpAny (model X.prog X.w) X.A (eval iter X.env) (fun v s1=>wpAny (model X.prog X.w) X.A (pyIter v) (PIE X pins σ tg R) X.xe s1) X.xe s
theorem z7H{M:Model}{A:Around}{E:Value->Shared->Prop}{s:Shared}{tg:Expr}{it:Addr}{u:Value}{o:Obj}{n:String}{vs:Array Value}{Q:Unit->Shared->Prop}(ho:s.heap.get? it=some o)(hc:o.cls=.type n)(hd:o.data=.fields vs)
    (hn:["enumerate","zip","dict_itemiterator","dict_reverseitemiterator","odict_iterator","itertools.zip_longest","itertools.pairwise"].contains n=false) (hQ:Q () s):wpAny M A (letOwnedTupleGo tg (.ref it) u) Q E s:=by
  unfold letOwnedTupleGo;cases tg<;>first
    | exact wpAny_pure hQ
    | (cases u <;> first
        | exact wpAny_pure hQ
        | (refine wpAny_bind (wpAny_load ho ?_)
           rw[hc,hd];show wpAny M A (if (["enumerate","zip","dict_itemiterator","dict_reverseitemiterator","odict_iterator","itertools.zip_longest","itertools.pairwise"].contains n && vs[0]? == some (rawInt _))=true then _ else _) Q E s;rw[if_neg (by intro h;rw[hn,Bool.false_and]at h;cases h)];exact wpAny_pure hQ))
noncomputable def Itl(K:W.Frag)(a:Addr):It:=
 ⟨fun i H=>∃xs x,SqL K H a xs/\xs[i]?=some x,fun i H x H'=>H'=H/\∀xs,SqL K H a xs->xs[i]?=some x,fun i H=>∃xs,SqL K H a xs/\xs.length<=i⟩
noncomputable def Itt(K:W.Frag)(a:Addr):It:=
 ⟨fun i H=>∃xs x,SqT K H a xs/\xs[i]?=some x,fun i H x H'=>H'=H/\∀xs,SqT K H a xs->xs[i]?=some x,fun i H=>∃xs,SqT K H a xs/\xs.length<=i⟩
noncomputable def Itr(lo:Int)(n:Nat):It:=⟨fun i _=>i<n,fun i H x H'=>H'=H/\x=.int (lo+i),fun i _=>n<=i⟩
theorem z5I{P:Program}{w:World}{K:W.Frag}{tg:Expr}(a it:Addr):Turn P w K tg (Itl K a) [it] it (fun i h=>h.IsListIter it a i) where
 mem:=by simp
 obj:=fun i h st b hb=>by
  have e:b=it:=by simpa using hb
  subst e;obtain⟨o,e,c,d⟩:=st;exact⟨o,e,fun v z=>by rw[d]at z;cases z⟩
 keep:=fun i h h' st k=>st.at fun o e=>k it (by simp) o e
 item:=by
  intro X hP hw hK hc i pins s σ H E I hf st hg;subst hP hw hK;obtain⟨xs,x,hq,hx⟩:=hg;obtain⟨its,rv,p,hz⟩:=I.list hq;obtain⟨u,hu,ru⟩:=rv.get hx;obtain⟨f0,f1,f2,f3,f4,f5⟩:=hf it (by simp);refine wpAny_pyNext_list_item st p.isList (x:=u) (by simpa using hu) fun h' st' sb=>?_;have I1:Inv X pins σ H { s with heap:=h' }:=I.turned (t':=s.toks) (fun b o hb e=>(sb.2 b hb).trans e) f0 f1 f3 f4 f5;obtain⟨o,e,c,d⟩:=id st';exact⟨u,rfl,z7H (s:={ s with heap:=h' }) e c d (by decide) ⟨x,H,I1,ru,⟨rfl,fun ys hy=>by rw[I.list_inj hy hq];exact hx⟩,st',fun b hb=>(hf b hb).1⟩⟩
 done:=by
  intro X hP hw hK hc i pins s σ H E I hf st hg;subst hP hw hK;obtain⟨xs,hq,hx⟩:=hg;obtain⟨its,rv,p,hz⟩:=I.list hq;obtain⟨f0,f1,f2,f3,f4,f5⟩:=hf it (by simp);have hl:=rv.length;exact wpAny_pyNext_list_end (I.ok.hd hc) st p.isList (by simp;omega) fun h' eb=>⟨rfl,I.turned (t':=s.toks) (fun b o hb e=>eb b o hb e) f0 f1 f3 f4 f5⟩
 self:=fun _ _ _ _ _ st h=>wpAny_pyIter_listiter st h
theorem z4T{P:Program}{w:World}{K:W.Frag}{tg:Expr}(a it:Addr):Turn P w K tg (Itt K a) [it] it (fun i h=>h.IsTupleIter it a i) where
 mem:=by simp
 obj:=fun i h st b hb=>by
  have e:b=it:=by simpa using hb
  subst e;obtain⟨o,e,c,d⟩:=st;exact⟨o,e,fun v z=>by rw[d]at z;cases z⟩
 keep:=fun i h h' st k=>st.at fun o e=>k it (by simp) o e
 item:=by
  intro X hP hw hK hc i pins s σ H E I hf st hg;subst hP hw hK;obtain⟨xs,x,hq,hx⟩:=hg;obtain⟨its,rv,p,hz⟩:=I.tuple hq;obtain⟨u,hu,ru⟩:=rv.get hx;obtain⟨f0,f1,f2,f3,f4,f5⟩:=hf it (by simp);refine wpAny_pyNext_tuple_item st (show s.heap.IsTuple a its.toArray from p) (x:=u) (by simpa using hu) fun h' st' sb=>?_;have I1:Inv X pins σ H { s with heap:=h' }:=I.turned (t':=s.toks) (fun b o hb e=>(sb.2 b hb).trans e) f0 f1 f3 f4 f5;obtain⟨o,e,c,d⟩:=id st';exact⟨u,rfl,z7H (s:={ s with heap:=h' }) e c d (by decide) ⟨x,H,I1,ru,⟨rfl,fun ys hy=>by rw[I.tuple_inj hy hq];exact hx⟩,st',fun b hb=>(hf b hb).1⟩⟩
 done:=by
  intro X hP hw hK hc i pins s σ H E I hf st hg;subst hP hw hK;obtain⟨xs,hq,hx⟩:=hg;obtain⟨its,rv,p,hz⟩:=I.tuple hq;obtain⟨f0,f1,f2,f3,f4,f5⟩:=hf it (by simp);have hl:=rv.length;exact wpAny_pyNext_tuple_end (I.ok.hd hc) st (show s.heap.IsTuple a its.toArray from p) (by simp;omega) fun h' eb=>⟨rfl,I.turned (t':=s.toks) (fun b o hb e=>eb b o hb e) f0 f1 f3 f4 f5⟩
 self:=fun _ _ _ _ _ st h=>wpAny_pyIter_tupleiter st h
theorem z4a{P:Program}{w:World}{K:W.Frag}{tg:Expr}(it:Addr)(lo:Int)(n:Nat):Turn P w K tg (Itr lo n) [it] it (fun i h=>IsRangeIter h it (lo+(i:Nat)*1) ((n:Int) - (i:Nat)) 1) where
 mem:=by simp
 obj:=fun i h st b hb=>by
  have e:b=it:=by simpa using hb
  subst e;exact⟨_,st,fun v z=>by
   have z':Data.fields _=Data.cell v:=z;cases z'⟩
 keep:=fun i h h' st k=>k it (by simp) _ st
 item:=by
  intro X hP hw hK hc i pins s σ H E I hf st hg;subst hP hw hK;obtain⟨f0,f1,f2,f3,f4,f5⟩:=hf it (by simp);have W:=Walks.range (prog:=X.prog) (w:=X.w) (I.ok.hd hc) it lo 1 n;refine W.item i s _ _ hg st fun v h' tk hv st' kk=>?_;obtain⟨t,rfl⟩:=hv;have I1:Inv X pins σ H { s with heap:=h',toks:=tk }:=I.turned (fun b o hb e=>kk b o (by simpa using hb) e) f0 f1 f3 f4 f5;refine⟨_,rfl,z7H (s:={ s with heap:=h',toks:=tk }) (n:="range_iterator") st' rfl rfl (by decide) ⟨.int (lo+i),H,I1,⟨t,?_⟩,⟨rfl,rfl⟩,st',fun b hb=>(hf b hb).1⟩⟩;rw[Int.mul_one]
 done:=by
  intro X hP hw hK hc i pins s σ H E I hf st hg;subst hP hw hK;obtain⟨f0,f1,f2,f3,f4,f5⟩:=hf it (by simp);exact wpAny_pyNext_range_end (I.ok.hd hc) st (by have:n<=i:=hg;omega) fun h' eb=>⟨rfl,I.turned (t':=s.toks) (fun b o hb e=>eb b o hb e) f0 f1 f3 f4 f5⟩
 self:=fun _ _ _ _ _ st h=>wpAny_pyIter_rangeiter st h
section
variable{X:Cx}{tg:Expr}
theorem z3t{pins:List (Addr×Obj)}{σ:St}{H:Hp}{s:Shared}{R:It->Hp->Prop}{E:Value->Shared->Prop}{lo hi:Int}{t u v:Tok}{tk:Nat}(I:Inv X pins σ H s)(h1 : -(2 ^ 62)<=lo)(h2:lo<2 ^ 62)(h3 : -(2 ^ 62)<=hi)(h4:hi<2 ^ 62)
  (q:R (Itr lo (hi - lo).toNat) H):wpAny (model X.prog X.w) X.A (pyIter (.ref s.heap.objs.size)) (PIE X pins σ tg R) E { s with heap:=s.heap.push { cls:=.type "range",data:=.fields #[.int lo t,.int hi u,.int 1 v] },toks:=tk }:=by
 refine wpAny_pyIter_range (IsRange.new ..) (small_one h1 h2 h3 h4) ?_;have I1:Inv X pins σ H { s with heap:=s.heap.push { cls:=.type "range",data:=.fields #[.int lo t,.int hi u,.int 1 v] },toks:=tk }:=I.kept fun b o e=>Heap.get?_push_of_some _ e;refine⟨(s.heap.push { cls:=.type "range",data:=.fields #[.int lo t,.int hi u,.int 1 v] }).objs.size,[(s.heap.push { cls:=.type "range",data:=.fields #[.int lo t,.int hi u,.int 1 v] }).objs.size],_,_,H,rfl,
  I1.kept (t':=tk) fun b o e=>Heap.get?_push_of_some _ e,z4a _ lo (hi - lo).toNat,?_,fun b hb=>?_,q⟩
 ·have e1:lo+((0:Nat):Int)*1=lo:=by simp
  have e2:(((hi - lo).toNat:Nat):Int) - ((0:Nat):Int)=Builtin.Range.rangeSize lo hi 1:=by rw[rangeSize_one];split<;>omega
  show IsRangeIter _ _ (lo+((0:Nat):Int)*1) ((((hi - lo).toNat:Nat):Int) - ((0:Nat):Int)) 1;rw[e1,e2];exact Heap.get?_push_size _ rfl
 ·have e:b=(s.heap.push { cls:=.type "range",data:=.fields #[.int lo t,.int hi u,.int 1 v] }).objs.size:=by simpa using hb
  subst e;exact I1.fpOk (Nat.le_refl _) (I1.hok.fresh (Nat.le_refl _))
noncomputable def zCp(ta:TA):TI:=fun σ H R=>ta σ H fun vs H1=>∃j:Int,vs=[.int j] /\ -(2 ^ 62)<=j/\j<2 ^ 62/\R (Itr 0 j.toNat) H1
noncomputable def zD9(ta:TA):TI:=fun σ H R=>ta σ H fun vs H1=>∃i j:Int,vs=[.int i,.int j]/\(-(2 ^ 62)<=i/\i<2 ^ 62 /\ -(2 ^ 62)<=j/\j<2 ^ 62)/\R (Itr i (j - i).toNat) H1
theorem z61{a:Expr}{ta:TA}{p pos:Pos}(hg:Gl X "range")(hm:X.mg "range"=none)(ha:PA X [a] ta)(hs:starEach [a] X.env=[(false,eval a X.env)]:=by rfl):PI X tg (.Call (.Name "range" p) [a] [] pos) (zCp ta):=by
 intro pins s σ H R I h;refine Call_ (uh I hg hm boot_range (PyProof.Rows.callWith_type1 (thn (ha pos pins s σ H _ I h) fun us s1 ⟨vs,H1,I1,r1,q1⟩=>?_) hs rfl));obtain⟨j,e,q1,q2,q⟩:=q1;subst e;cases r1 with
 | cons r rr=>
  cases rr;obtain⟨t,rfl⟩:=r;exact call_range_1 (z3t I1 (by omega) (by omega) q1 q2 (by simpa using q))
theorem z6F{a b:Expr}{ta:TA}{p pos:Pos}(hg:Gl X "range")(hm:X.mg "range"=none)(ha:PA X [a,b] ta)(hs:starEach [a,b] X.env=[(false,eval a X.env),(false,eval b X.env)]:=by rfl)(hs2:starEach [b] X.env=[(false,eval b X.env)]:=by rfl):
  PI X tg (.Call (.Name "range" p) [a,b] [] pos) (zD9 ta):=by
 intro pins s σ H R I h;refine Call_ (uh I hg hm boot_range (PyProof.Rows.callWith_type1 (thn (ha pos pins s σ H _ I h) fun us s1 ⟨vs,H1,I1,r1,q1⟩=>?_) (by rw[hs,hs2]) (by rw[hs2];rfl)));obtain⟨i,j,e,⟨q1,q2,q3,q4⟩,q⟩:=q1;subst e;cases r1 with
 | cons r rr=>
  cases rr with
  | cons r' rr=>
   cases rr;obtain⟨t,rfl⟩:=r;obtain⟨t',rfl⟩:=r';exact call_range_2 (z3t I1 q1 q2 q3 q4 q)
noncomputable def tFor(wi:TI)(g:TG)(tb:TS):TS:=fun D σ H=>wi σ H fun J H1=>∃W:Nat->Nat->St->Hp->Prop,(∃m,W 0 m σ H1)/\∀i m σ H,W i m σ H->
 (J.stop i H/\D.nx σ H)\/(J.go i H/\∃N:St->Hp->Prop,(∀σ' H',N σ' H'->∃m',m'<m/\W (i+1) m' σ' H')/\∀x H',J.yld i H x H'->g x σ H' fun σ2 H2=>tb { D with nx:=N,ct:=N,bk:=D.nx } σ2 H2)
noncomputable def z0P(fp:List Addr)(h:Heap):List (Addr×Obj):=fp.filterMap fun b=>(h.get? b).map fun o=>(b,o)
theorem xp{fp:List Addr}{h:Heap}{b:Addr}{o:Obj}(hb:b∈fp)(e:h.get? b=some o):(b,o)∈z0P fp h:=List.mem_filterMap.mpr ⟨b,hb,by rw[e];rfl⟩
theorem z6T{fp:List Addr}{h:Heap}{p:Addr×Obj}(hp:p∈z0P fp h):p.1∈fp/\h.get? p.1=some p.2:=by
 obtain⟨b,hb,e⟩:=List.mem_filterMap.mp hp;cases q:h.get? b with
 | none=>rw[q]at e;cases e
 | some o=>
  rw[q]at e;have e':(b,o)=p:=Option.some.inj e;subst e';exact⟨hb,q⟩
theorem Inv.pinned{pins:List (Addr×Obj)}{σ:St}{H:Hp}{s:Shared}{fp:List Addr}(I:Inv X pins σ H s)(hf:∀b∈fp,FpOk X pins H b)(ho:∀b∈fp,∃o,s.heap.get? b=some o/\∀v,o.data≠.cell v):Inv X (pins++z0P fp s.heap) σ H s:=
 I.pins_of fun p hp=>(List.mem_append.mp hp).elim (fun z=>I.pin p (List.mem_append_right _ z)) fun z=>by
  obtain⟨hb,e⟩:=z6T z;obtain⟨f0,f1,f2,_⟩:=hf p.1 hb;obtain⟨o,e',d⟩:=ho p.1 hb;rw[e]at e';cases e';exact⟨e,f0,f1,f2,d⟩
theorem Inv.unpinned{pins pl:List (Addr×Obj)}{σ:St}{H:Hp}{s:Shared}(I:Inv X (pins++pl) σ H s):Inv X pins σ H s:=I.pins_of fun p hp=>I.pin p (List.mem_append_right _ (List.mem_append_left _ hp))
theorem zCE{iter:Expr}{body:List Stmt}{wi:TI}{g:TG}{tb:TS}{pos:Pos}(hp:PassesOwn (model X.prog X.w) X.A X.env X.xe)(hc:X.calm=true)(hi:PI X tg iter wi)(hg:PG X tg g)(hb:PSs X body tb)
  (hs:∀x,foldedSetIterable iter X.env x=pure x:=by intro _;rfl):PS X (.For tg iter body [] pos) (tFor wi g tb):=by
 intro pins s σ H D I h;refine wpAny_For (thn (hi pins s σ H _ I h) fun v s1 h1=>thn h1 fun itv s2 h2=>?_) hs;obtain⟨it,fp,tn,J,H2,e,I2,T,st2,f2,W,⟨m0,w0⟩,turn⟩:=h2;subst e;have stat:∀{H':Hp},(∀b∈fp,H' b=none)->∀b∈fp,FpOk X pins H' b:=fun hn b hb=>⟨hn b hb,(f2 b hb).2⟩;refine codeAny_forLoop_any (fun n s'=>∃i σ' H',Inv X pins σ' H' s'/\tn i s'.heap/\(∀b∈fp,H' b=none)/\W i n σ' H') ?_ m0 ⟨0,σ,H2,I2,st2,fun b hb=>(f2 b hb).1,w0⟩;rintro n s3 ⟨i,σ3,H3,I3,st3,fr3,w3⟩;rcases turn i n σ3 H3 w3 with ⟨stop,qn⟩ | ⟨go,N,hN,step⟩
 ·refine wpAny_passesOwn hp (thn (T.done X rfl rfl rfl hc i pins s3 σ3 H3 X.xe I3 (stat fr3) st3 stop) fun r s4 ⟨hr,I4⟩=>?_);subst hr;exact wpAny_execs_nil ⟨σ3,H3,I4,qn⟩
 ·refine wpAny_passesOwn hp (thn (T.item X rfl rfl rfl hc i pins s3 σ3 H3 X.xe I3 (stat fr3) st3 go) fun r s4 ⟨u,hr,h4⟩=>?_);subst hr;refine wpAny_passesOwn hp (thn h4 fun _ s5 ⟨x,H5,I5,r5,y5,st5,fr5⟩=>?_);have I5':=I5.pinned (stat fr5) (T.obj _ _ st5);refine wpAny_passesOwn hp (thn (hg _ s5 σ3 H5 x u _ I5' r5 (step x H5 y5)) fun _ s6 ⟨σ6,H6,I6,q6⟩=>?_);refine wpAny_passesOwn hp (thn (hb _ s6 σ6 H6 _ I6 q6) fun f s7 q7=>?_);have again:∀{σ7:St} {H7:Hp},Inv X (pins++z0P fp s5.heap) σ7 H7 s7->N σ7 H7->∃m,m<n/\∃i σ' H',Inv X pins σ' H' s7/\tn i s7.heap/\(∀b∈fp,H' b=none)/\W i m σ' H':=fun{σ7 H7} I7 n7=>by
   obtain⟨m',hm,w7⟩:=hN σ7 H7 n7;refine⟨m',hm,i+1,σ7,H7,I7.unpinned,T.keep _ _ _ st5 fun b hb o e=>(I7.pin (b,o) (List.mem_append_right _ (List.mem_append_right _ (xp hb e)))).1,fun b hb=>?_,w7⟩;obtain⟨o,e,d⟩:=T.obj _ _ st5 b hb;exact(I7.pin (b,o) (List.mem_append_right _ (List.mem_append_right _ (xp hb e)))).2.1
  cases f with
  | next=>obtain⟨σ7,H7,I7,n7⟩:=q7;exact again I7 n7
  | cont=>obtain⟨σ7,H7,I7,n7⟩:=q7;exact again I7 n7
  | brk=>obtain⟨σ7,H7,I7,q7⟩:=q7;exact⟨σ7,H7,I7.unpinned,q7⟩
  | ret v=>obtain⟨x7,σ7,H7,I7,r7,q7⟩:=q7;exact⟨x7,σ7,H7,I7.unpinned,r7,q7⟩
end
noncomputable abbrev R2:=V->V->Hp->VK->Prop
def OpR(X:Cx)(f:Value->Value->Sem Value)(r:R2):Prop:=
 ∀(pins:List (Addr×Obj)) (s:Shared) (σ:St) (H:Hp) (x y:V) (v u:Value) (Q:VK),Inv X pins σ H s->RelV x v->RelV y u->r x y H Q->
  wpAny (model X.prog X.w) X.A (f v u) (EP X pins σ Q) X.xe s
def UnR(X:Cx)(f:Value->Sem Value)(r:V->Hp->VK->Prop):Prop:=
 ∀(pins:List (Addr×Obj)) (s:Shared) (σ:St) (H:Hp) (x:V) (v:Value) (Q:VK),Inv X pins σ H s->RelV x v->r x H Q->
  wpAny (model X.prog X.w) X.A (f v) (EP X pins σ Q) X.xe s
def CallR(X:Cx)(f:Value)(r:List V->Hp->VK->Prop):Prop:=
 ∀(pins:List (Addr×Obj)) (s:Shared) (σ:St) (H:Hp) (xs:List V) (us:List Value) (Q:VK),Inv X pins σ H s->Vals xs us->r xs H Q->
  wpAny (model X.prog X.w) X.A (call f us) (EP X pins σ Q) X.xe s
def TruR(X:Cx)(r:V->Hp->(Bool->Hp->Prop)->Prop):Prop:=
 ∀(pins:List (Addr×Obj)) (s:Shared) (σ:St) (H:Hp) (x:V) (v:Value) (Q:Bool->Hp->Prop),Inv X pins σ H s->RelV x v->r x H Q->
  wpAny (model X.prog X.w) X.A (truthy v) (TP X pins σ Q) X.xe s
noncomputable def tOp(r:R2)(ta tb:TE):TE:=fun σ H Q=>ta σ H fun x H1=>tb σ H1 fun y H2=>r x y H2 Q
noncomputable def tUn(r:V->Hp->VK->Prop)(ta:TE):TE:=fun σ H Q=>ta σ H fun x H1=>r x H1 Q
noncomputable def rI(C:Int->Int->Prop)(g:Int->Int->V):R2:=fun x y H Q=>∃i j,x=.int i/\y=.int j/\C i j/\Q (g i j) H
noncomputable def rI0(g:Int->Int->V):R2:=fun x y H Q=>∃i j,x=.int i/\y=.int j/\Q (g i j) H
noncomputable def rU(g:Int->V):V->Hp->VK->Prop:=fun x H Q=>∃i,x=.int i/\Q (g i) H
section
variable{X:Cx}{a b c:Expr}{ta tb tc:TE}{pos:Pos}
theorem binT(ha:PE X a ta)(hb:PE X b tb){pins:List (Addr×Obj)}{s:Shared}{σ:St}{H:Hp}{R:V->V->Hp->Prop}(I:Inv X pins σ H s)
  (h:ta σ H fun x H1=>tb σ H1 fun y H2=>R x y H2) {Q:Value->Shared->Prop} {f:Value->Value->Sem Value}
  (hf:∀v u s2 x y H2,Inv X pins σ H2 s2->RelV x v->RelV y u->R x y H2->wpAny (model X.prog X.w) X.A (f v u) Q X.xe s2) :
  wpAny (model X.prog X.w) X.A (eval a X.env) (fun v s₁=>wpAny (model X.prog X.w) X.A (eval b X.env) (fun u s₂=>wpAny (model X.prog X.w) X.A (f v u) Q X.xe s₂) X.xe s₁) X.xe s:=by
 refine thn (ha pins s σ H _ I h) fun v s1 ⟨x,H1,I1,r1,q1⟩=>?_;refine thn (hb pins s1 σ H1 _ I1 q1) fun u s2 ⟨y,H2,I2,r2,q2⟩=>?_;exact hf v u s2 x y H2 I2 r1 r2 q2
theorem z6z{op:Operator}{r:R2}(ho:OpR X (binaryOp op) r)(ha:PE X a ta)(hb:PE X b tb):PE X (.BinOp a op b pos) (tOp r ta tb):=by
 intro pins s σ H Q I h;exact wpAny_BinOp (binT ha hb I h fun v u s2 x y H2 I2 rx ry q=>ho pins s2 σ H2 x y v u Q I2 rx ry q)
theorem zC3{op:UnaryOp}{r:V->Hp->VK->Prop}(ho:UnR X (unaryOp op) r)(ha:PE X a ta):PE X (.UnaryOp op a pos) (tUn r ta):=by
 intro pins s σ H Q I h;exact UnaryOp_ (thn (ha pins s σ H _ I h) fun v s1 ⟨x,H1,I1,r1,q1⟩=>ho pins s1 σ H1 x v Q I1 r1 q1)
theorem opI{f:Value->Value->Sem Value}{C:Int->Int->Prop}{g:Int->Int->Int}
  (rule:∀(i j:Int) (t u:Tok) (s:Shared) (Q:Value->Shared->Prop) (E:Value->Shared->Prop),C i j->Q (.int (g i j) s.toks) { s with toks:=s.toks+1 }->wpAny (model X.prog X.w) X.A (f (.int i t) (.int j u)) Q E s) :
  OpR X f (rI C fun i j=>.int (g i j)):=by
 intro pins s σ H x y v u Q I rx ry h;obtain⟨i,j,rfl,rfl,hc,q⟩:=h;obtain⟨t,rfl⟩:=rx;obtain⟨t',rfl⟩:=ry;exact rule i j t t' s _ _ hc ⟨.int (g i j),H,I.tok _,⟨_,rfl⟩,q⟩
theorem opI0{f:Value->Value->Sem Value}{g:Int->Int->Int}
  (rule:∀(i j:Int) (t u:Tok) (s:Shared) (Q:Value->Shared->Prop) (E:Value->Shared->Prop),Q (.int (g i j) s.toks) { s with toks:=s.toks+1 }->wpAny (model X.prog X.w) X.A (f (.int i t) (.int j u)) Q E s) :
  OpR X f (rI0 fun i j=>.int (g i j)):=by
 intro pins s σ H x y v u Q I rx ry h;obtain⟨i,j,rfl,rfl,q⟩:=h;obtain⟨t,rfl⟩:=rx;obtain⟨t',rfl⟩:=ry;exact rule i j t t' s _ _ ⟨.int (g i j),H,I.tok _,⟨_,rfl⟩,q⟩
theorem opB0{f:Value->Value->Sem Value}{g:Int->Int->Bool}
  (rule:∀(i j:Int) (t u:Tok) (s:Shared) (Q:Value->Shared->Prop) (E:Value->Shared->Prop),Q (.bool (g i j)) s->wpAny (model X.prog X.w) X.A (f (.int i t) (.int j u)) Q E s) :
  OpR X f (rI0 fun i j=>.bl (g i j)):=by
 intro pins s σ H x y v u Q I rx ry h;obtain⟨i,j,rfl,rfl,q⟩:=h;obtain⟨t,rfl⟩:=rx;obtain⟨t',rfl⟩:=ry;exact rule i j t t' s _ _ ⟨.bl (g i j),H,I,rfl,q⟩
def CMul(i j:Int):Prop:=(-(2 ^ 64)<i/\i<2 ^ 64)\/(-(2 ^ 64)<j/\j<2 ^ 64)
theorem CMul.ok{i j:Int}(h:CMul i j):IntMulOk i j:=by
 rcases h with ⟨h1,h2⟩ | ⟨h1,h2⟩
 ·exact .of_left (intBits_le_64 h1 h2)
 ·exact .of_right (intBits_le_64 h1 h2)
theorem op_add:OpR X (binaryOp .Add) (rI0 fun i j=>.int (i+j)):=opI0 fun _ _ _ _ _ _ _ q=>add_int q
theorem op_sub:OpR X (binaryOp .Sub) (rI0 fun i j=>.int (i - j)):=opI0 fun _ _ _ _ _ _ _ q=>sub_int q
theorem op_mul:OpR X (binaryOp .Mult) (rI CMul fun i j=>.int (i*j)):=opI fun _ _ _ _ _ _ _ hc q=>mul_int q hc.ok
theorem op_mod:OpR X (binaryOp .Mod) (rI (fun _ j=>0<j) fun i j=>.int (i % j)):=opI fun i j _ _ _ _ _ hc q=>by
 have h1:(0:Int)<j:=hc;exact mod_int' (by omega) (by rw[Int.fmod_eq_emod_of_nonneg i (by omega)];exact q)
theorem unI{f:Value->Sem Value}{g:Int->Int}
  (rule:∀(i:Int) (t:Tok) (s:Shared) (Q:Value->Shared->Prop) (E:Value->Shared->Prop),Q (.int (g i) s.toks) { s with toks:=s.toks+1 }->wpAny (model X.prog X.w) X.A (f (.int i t)) Q E s) :
  UnR X f (rU fun i=>.int (g i)):=by
 intro pins s σ H x v Q I rx h;obtain⟨i,rfl,q⟩:=h;obtain⟨t,rfl⟩:=rx;exact rule i t s _ _ ⟨.int (g i),H,I.tok _,⟨_,rfl⟩,q⟩
theorem z8O:UnR X (unaryOp .USub) (rU fun i=>.int (-i)):=unI fun _ _ _ _ _ q=>neg_int q
end
section
variable{X:Cx}{a b c:Expr}{ta tb tc:TE}{pos:Pos}
theorem z8R{pins:List (Addr×Obj)}{σ:St}{H:Hp}{s:Shared}{Q:VK}{k k':Bool}(I:Inv X pins σ H s)(q:Q (.bl k) H)(e:k=k'):EP X pins σ Q (.bool k') s:=by
 subst e;exact⟨.bl k,H,I,rfl,q⟩
theorem op_lt:OpR X (compareOp .Lt) (rI0 fun i j=>.bl (decide (i<j))):=opB0 fun _ _ _ _ _ _ _ q=>lt_int q
theorem z5O:OpR X (compareOp .LtE) (rI0 fun i j=>.bl (decide (i<=j))):=opB0 fun _ _ _ _ _ _ _ q=>le_int q
theorem z94:OpR X (compareOp .Gt) (rI0 fun i j=>.bl (decide (j<i))):=opB0 fun _ _ _ _ _ _ _ q=>gt_int q
theorem zBb:OpR X (compareOp .GtE) (rI0 fun i j=>.bl (decide (j<=i))):=opB0 fun _ _ _ _ _ _ _ q=>ge_int q
theorem op_isN:OpR X (compareOp .Is) (fun x y H Q=>y=.non/\Q (.bl (decide (x=.non))) H):=by
 intro pins s σ H x y v u Q I rx ry h;obtain⟨rfl,q⟩:=h;cases ry;refine is_none_gen (z8R I q ?_);cases x<;>first
  | (cases rx;rfl)
  | (obtain⟨t,rfl⟩:=rx;rfl)
theorem op_notN:OpR X (compareOp .IsNot) (fun x y H Q=>y=.non/\Q (.bl (!decide (x=.non))) H):=by
 intro pins s σ H x y v u Q I rx ry h;obtain⟨rfl,q⟩:=h;cases ry;refine isnot_none_gen (z8R I q ?_);cases x<;>first
  | (cases rx;rfl)
  | (obtain⟨t,rfl⟩:=rx;rfl)
theorem OpR.or{f:Value->Value->Sem Value}{r r':R2}(h:OpR X f r)(h':OpR X f r'):OpR X f (fun x y H Q=>r x y H Q\/r' x y H Q):=by
 intro pins s σ H x y v u Q I rx ry q;rcases q with q | q
 ·exact h pins s σ H x y v u Q I rx ry q
 ·exact h' pins s σ H x y v u Q I rx ry q
theorem zd(b:Expr){op:CmpOp}(h:op≠.In:=by decide)(h2:op≠.NotIn:=by decide):behindInMarks op b=false:=by
 have e1:(op == CmpOp.In)=false:=by cases op<;>first | rfl | exact absurd rfl h
 have e2:(op == CmpOp.NotIn)=false:=by cases op<;>first | rfl | exact absurd rfl h2
 cases b<;>simp[behindInMarks,e1,e2]
theorem z5w{op:CmpOp}{r:R2}(ho:OpR X (compareOp op) r)(ha:PE X a ta)(hb:PE X b tb)(hm:behindInMarks op b=false):PE X (.Compare a [op] [b] pos) (tOp r ta tb):=by
 intro pins s σ H Q I h;exact wpAny_Compare1 (binT ha hb I h fun v u s2 x y H2 I2 rx ry q=>ho pins s2 σ H2 x y v u Q I2 rx ry q) hm
noncomputable def zCv(t:TE):TT:=fun σ H Q=>t σ H fun x H'=>∃k,x=.bl k/\Q k H'
theorem z2d{op:CmpOp}{r:R2}(ho:OpR X (compareOp op) r)(ha:PE X a ta)(hb:PE X b tb)(hm:behindInMarks op b=false):PT X (.Compare a [op] [b] pos) (zCv (tOp r ta tb)):=by
 intro pins s σ H Q I h;refine wpAny_isTrue_Compare1 (thn (ha pins s σ H _ I h) fun v s1 ⟨x,H1,I1,r1,q1⟩=>thn (hb pins s1 σ H1 _ I1 q1) fun u s2 ⟨y,H2,I2,r2,q2⟩=>
  thn (ho pins s2 σ H2 x y v u _ I2 r1 r2 q2) fun c s3 ⟨z,H3,I3,r3,k,e,q3⟩=>?_) hm
 subst e;cases r3;exact wpAny_truthy_bool ⟨H3,I3,q3⟩
noncomputable def z8e(r r':R2)(ta tb tc:TE):TE:=fun σ H Q=>ta σ H fun x H1=>tb σ H1 fun y H2=>r x y H2 fun z H3=>∃k,z=.bl k/\
 (if k=true then tc σ H3 fun w' H4=>r' y w' H4 Q else Q (.bl false) H3)
theorem z72{op op':CmpOp}{r r':R2}(ho:OpR X (compareOp op) r)(ho':OpR X (compareOp op') r')(ha:PE X a ta)(hb:PE X b tb)(hc:PE X c tc)
  (hm:lastMarks [op,op'] [b,c]=false:=by with_unfolding_all rfl):PE X (.Compare a [op,op'] [b,c] pos) (z8e r r' ta tb tc):=by
 intro pins s σ H Q I h;refine Compare_chain (thn (ha pins s σ H _ I h) fun v s1 ⟨x,H1,I1,r1,q1⟩=>chain_link (thn (hb pins s1 σ H1 _ I1 q1) fun u s2 ⟨y,H2,I2,r2,q2⟩=>
  thn (ho pins s2 σ H2 x y v u _ I2 r1 r2 q2) fun d s3 ⟨z,H3,I3,r3,k,e,q3⟩=>?_)) hm
 subst e;cases r3;refine wpAny_truthy_bool ?_;cases k with
 | false=>exact ite_ff ⟨.bl false,H3,I3,rfl,q3⟩
 | true=>exact ite_tt (chain_last (thn (hc pins s3 σ H3 _ I3 q3) fun w' s4 ⟨z',H4,I4,r4,q4⟩=>ho' pins s4 σ H4 y z' u w' Q I4 r2 r4 q4))
def TruV(K:W.Frag)(x:V)(H:Hp)(k:Bool):Prop:=
 match x with
 | .non=>k=false
 | .bl b=>k=b
 | .int i=>k=(i != 0)
 | .str y=>y.length<=sizeLine/\k=((y.length:Int) != 0)
 | .byt y=>y.size<=sizeLine/\k=((y.size:Int) != 0)
 | .ref p=>(∃xs,SqL K H p xs/\k=!xs.isEmpty)\/(∃xs,SqT K H p xs/\k=!xs.isEmpty)\/∃kvs,H p=some (.dK kvs)/\k=!kvs.isEmpty
 | _=>False
theorem z4D{κ:Type}{kvs:List (κ×V)}{vs:List (κ×Value)}(r:KV kvs vs):(!vs.isEmpty)=!kvs.isEmpty:=by
 cases r<;>rfl
theorem z0b{xs:List V}{its:List Value}(r:Vals xs its):(!its.toArray.isEmpty)=!xs.isEmpty:=by
 cases r<;>simp
theorem z0V:(sizeLine:Nat)<2 ^ 63:=by rw[sizeLine_eq];decide
theorem zBt:TruR X (fun x H Q=>∃k,TruV X.K x H k/\Q k H):=by
 intro pins s σ H x v Q I rx h;obtain⟨k,e,q⟩:=h;have hl:=z0V;have hs:sizeLine=16777216:=sizeLine_eq;cases x with
 | non=>
  cases rx;have e':k=false:=e;subst e';exact truthy_none ⟨H,I,q⟩
 | bl b=>
  cases rx;have e':k=b:=e;subst e';exact wpAny_truthy_bool ⟨H,I,q⟩
 | int i=>
  obtain⟨t,rfl⟩:=rx;have e':k=(i != 0):=e;subst e';exact PySem.P.truthy_int ⟨H,I,q⟩
 | str y=>
  obtain⟨t,rfl⟩:=rx;obtain⟨hy,e'⟩:y.length<=sizeLine/\k=((y.length:Int) != 0):=e;subst e';exact PySem.P.truthy_str (by omega) ⟨H,I.tok _,q⟩
 | byt y=>
  obtain⟨t,rfl⟩:=rx;obtain⟨hy,e'⟩:y.size<=sizeLine/\k=((y.size:Int) != 0):=e;subst e';exact W.truthy_bytes (by omega) ⟨H,I.tok _,q⟩
 | ref p=>
  cases rx;have e':(∃xs,SqL X.K H p xs/\k=!xs.isEmpty)\/(∃xs,SqT X.K H p xs/\k=!xs.isEmpty)\/∃kvs,H p=some (.dK kvs)/\k=!kvs.isEmpty:=e;rcases e' with ⟨xs,hx,e'⟩ | ⟨xs,hx,e'⟩ | ⟨kvs,hx,e'⟩
  ·subst e';obtain⟨its,r,pl,hz⟩:=I.list hx;have hlen:=r.length;exact wpAny_truthy_list pl.isList (by simp only[List.size_toArray];omega) ⟨H,I.tok _,by rw[z0b r];exact q⟩
  ·subst e';obtain⟨its,r,pl,hz⟩:=I.tuple hx;have hlen:=r.length;exact truthy_tuple pl (by simp only[List.size_toArray];omega) ⟨H,I.tok _,by rw[z0b r];exact q⟩
  ·subst e';obtain⟨hz,hS,vs,r,m⟩:kvs.length<=sizeLine/\(p == sysModules)=false/\∃vs,KV kvs vs/\s.heap.DictOf (zT X.prog X.w) p vs:=I.hok p _ hx;have hlen:kvs.length=vs.length:=Paired.length r;exact wpAny_truthy_dict hS m (by omega) ⟨H,I.tok _,by rw[z4D r];exact q⟩
 | _=>exact(show False from e).elim
theorem z7F(ha:PE X a ta)(he:∀whole,isTrue a X.env whole=(do let v<-whole;standAt a.pos;holding [v] (truthy v))):
  PT X a (fun σ H Q=>ta σ H fun x H'=>∃k,TruV X.K x H' k/\Q k H'):=by
 intro pins s σ H Q I h;exact isTrue_plain (thn (ha pins s σ H _ I h) fun v s1 ⟨x,H1,I1,r1,q1⟩=>zBt pins s1 σ H1 x v Q I1 r1 q1) (he _)
theorem z4K:OpR X (binaryOp .Add) (fun x y H Q=>∃i j,x=.str i/\y=.str j/\i.length+j.length<=sizeLine/\Q (.str (i++j)) H):=by
 intro pins s σ H x y v u Q I rx ry h;obtain⟨i,j,rfl,rfl,hz,q⟩:=h;obtain⟨t,rfl⟩:=rx;obtain⟨t',rfl⟩:=ry;exact add_str (fun t' tk=>⟨.str (i++j),H,I.tok _,⟨_,rfl⟩,q⟩) hz
theorem xf{x:V}{us:List Value}(r:Vals [x] us):∃u,us=[u]/\RelV x u:=by
 cases r with
 | cons r1 r2=>cases r2;exact⟨_,rfl,r1⟩
theorem zCJ{x y:V}{us:List Value}(r:Vals [x,y] us):∃u w',us=[u,w']/\RelV x u/\RelV y w':=by
 cases r with
 | cons r1 r2=>
  cases r2 with
  | cons r3 r4=>cases r4;exact⟨_,_,rfl,r1,r3⟩
end
structure ObjM(h:Heap)(x dx C:Addr)(mA:Str->Option Value):Prop where
 obj:h.get? x=some (W.instObj C dx)
 ns:h.Ns1 dx mA
 ne:dx≠x
theorem z5d{h:Heap}{dx:Addr}{mA:Str->Option Value}(n:h.Ns1 dx mA):∃od,h.get? dx=some od/\∀name,W.lookIn name od=some (mA name):=by
 obtain⟨o,es,ep,ho,hd,hk,_,hm⟩:=n;refine⟨o,ho,fun name=>?_⟩;have e:=hm name;unfold nsFind findBy at e;rw[<-Array.find?_toList]at e;unfold W.lookIn;rw[hd];dsimp only;split
 ·rename_i y q
  rw[q]at e;exact congrArg some e
 ·rename_i q
  rw[q]at e;have a:es.toList.any (·.refKey)=false:=by
   rw[List.any_eq_false];intro y hy;obtain⟨z,t,hkey⟩:=hk y (Array.mem_toList_iff.mp hy);simp[DictEntry.refKey,hkey]
  have a':¬es.toList.any (·.refKey)=true:=by rw[a];exact Bool.false_ne_true
  rw[if_neg a'];exact congrArg some e
theorem ObjM.look{h:Heap}{x dx C:Addr}{mA:Str->Option Value}(I:ObjM h x dx C mA):∃od,W.InstAt h x (W.instObj C dx) C (some od)/\∀name,W.lookIn name od=some (mA name):=
 let⟨od,ho,hl⟩:=z5d I.ns
 ⟨od,⟨I.obj,rfl,rfl,ho⟩,hl⟩
section
variable{prog:Program}{w:World}{A:Around}{E:Value->Shared->Prop}{s:Shared}{K:W.Frag}{x dx C f:Addr}{mA:Str->Option Value}{name:Str}{v:Value}
end
theorem RelO.some_of{v:V}{o:Option Value}(r:RelO (some v) o):∃u,o=some u/\RelV v u:=by
 cases o with
 | none=>exact(show False from r).elim
 | some u=>exact⟨u,rfl,r⟩
section
variable{P:Program}{w:World}{H H':Hp}{h h':Heap}{a C dx:Addr}{fs fs':List (Str×V)}
theorem zA6(hok:HOk P w H h)(e:H a=some (.ins C dx fs)):∃mA,ObjM h a dx C mA/\(∀f,RelO (fs.lookup f) (mA f))/\PySem.Within mA (fs.map (·.1))/\fs.length<=1000/\H dx=some (.own a):=by
 obtain⟨d,z,ne,ob,mA,n,r,q⟩:=(show ObjOk P w H h a (.ins C dx fs) from hok a _ e);exact⟨mA,⟨ob,n,ne⟩,r,q,z,d⟩
end
structure Cls(K:W.Frag)(C:Addr):Prop where
 pg:W.plainGet K C Str.empty=true
 hd:W.hasDictIn K C=true
 po:W.plainOver K C=true
 sa:W.findIn K (.ref C) "__setattr__"=some (some (.builtin "object.__setattr__"))
theorem Cls.get{K:W.Frag}{C:Addr}(c:Cls K C)(f:Str):W.plainGet K C f=true:=c.pg
section
variable{X:Cx}{pins:List (Addr×Obj)}{σ:St}{H:Hp}{s:Shared}{a C dx:Addr}{fs:List (Str×V)}{f:Str}{v:V}{A:Around}{E:Value->Shared->Prop}
end
section
variable{X:Cx}{o e value:Expr}{f:Str}{pos pos' tpos:Pos}{ta tv:TE}
end
section
variable{X:Cx}{pins:List (Addr×Obj)}{σ:St}{H:Hp}{s:Shared}{A:Around}{E:Value->Shared->Prop}{Q:Value->Shared->Prop}{c:Value}{b:Bool}
inductive TyOf(K:W.Frag)(H:Hp):V->Value->Prop where
 | non:TyOf K H .non (.type "NoneType")
 | bl (x:Bool):TyOf K H (.bl x) (.type "bool")
 | int (i:Int):TyOf K H (.int i) (.type "int")
 | str (x:Str):TyOf K H (.str x) (.type "str")
 | flt (x:UInt64):TyOf K H (.flt x) (.type "float")
 | lst {a:Addr} {xs:List V} (e:H a=some (.lst xs)):TyOf K H (.ref a) (.type "list")
 | frz {a:Addr} {o:Obj} {xs:List V} (e:H a=some (.frz o (.lst xs))):TyOf K H (.ref a) (.type "list")
 | tup {a:Addr} {xs:List V} (e:H a=some (.tup xs)):TyOf K H (.ref a) (.type "tuple")
 | dK {a:Addr} {kvs:List (Key×V)} (e:H a=some (.dK kvs)):TyOf K H (.ref a) (.type "dict")
 | dT {a:Addr} {kvs:List (List Key×V)} (e:H a=some (.dT kvs)):TyOf K H (.ref a) (.type "dict")
 | ins {a C dx:Addr} {fs:List (Str×V)} (e:H a=some (.ins C dx fs)) (cl:Cls K C) (ha:W.findIn K (.ref C) "__class__"=some (some (.builtin "object.__class__")))
   (hn:W.specialIn K (.builtin "object.__class__") "__get__"=some (some (.builtin "getset_descriptor.__get__"))) (htk:W.takesIn K (.builtin "object.__class__")=some true)
   (hm:W.mroIn K C (.type "object")=some true):TyOf K H (.ref a) (.ref C)
theorem z6l{x:V}{u t:Value}(I:Inv X pins σ H s)(rx:RelV x u)(ty:TyOf X.K H x t)(e:W.kitOne X.K t c=some b)(h:∀tk,Q (.bool b) { s with toks:=tk }):
  wpAny (model X.prog X.w) A (call (.builtin "isinstance") [u,c]) Q E s:=by
 cases ty with
 | non=>cases(show u=Value.none from rx);exact W.kia_one W.kitx_none I.kIn True.intro e (fun z=>nomatch z) h
 | bl y=>cases(show u=Value.bool y from rx);exact W.kia_one W.kitx_bool I.kIn True.intro e (fun z=>nomatch z) h
 | int i=>obtain⟨t,q⟩:=(show ∃t,u=Value.int i t from rx);cases q;exact W.kia_one W.kitx_int I.kIn True.intro e (fun z=>nomatch z) h
 | str y=>obtain⟨t,q⟩:=(show ∃t,u=Value.str y t from rx);cases q;exact W.kia_one W.kitx_str I.kIn True.intro e (fun z=>nomatch z) h
 | flt y=>obtain⟨t,q⟩:=(show ∃t,u=Value.float y t from rx);cases q;exact W.kia_one W.kitx_float I.kIn True.intro e (fun z=>nomatch z) h
 | @lst a xs ea=>
  cases(show u=Value.ref a from rx);obtain⟨_,_,n,_,h1⟩:=(show ObjOk X.prog X.w H s.heap a (.lst xs) from I.hok a _ ea);exact W.kia_one W.kitx_list I.kIn ⟨_,h1,rfl⟩ e (fun z=>nomatch z) h
 | @frz a ob xs ea=>
  cases(show u=Value.ref a from rx);obtain⟨_,_,_,n,_,h1⟩:=(show ObjOk X.prog X.w H s.heap a (.frz ob (.lst xs)) from I.hok a _ ea);exact W.kia_one W.kitx_list I.kIn ⟨_,h1,rfl⟩ e (fun z=>nomatch z) h
 | @tup a xs ea=>
  cases(show u=Value.ref a from rx);obtain⟨_,_,_,p⟩:=(show ObjOk X.prog X.w H s.heap a (.tup xs) from I.hok a _ ea);obtain⟨o,h1,h2,_⟩:=p;exact W.kia_one W.kitx_tuple I.kIn ⟨o,h1,h2⟩ e (fun z=>nomatch z) h
 | @dK a kvs ea=>
  cases(show u=Value.ref a from rx);obtain⟨_,_,vs,_,p⟩:=(show ObjOk X.prog X.w H s.heap a (.dK kvs) from I.hok a _ ea);obtain⟨o,es,ep,h1,h2,_⟩:=p;exact W.kia_one W.kitx_dict I.kIn ⟨o,h1,h2.1⟩ e (fun z=>nomatch z) h
 | @dT a kvs ea=>
  cases(show u=Value.ref a from rx);obtain⟨_,_,xs,_,o,es,ep,h1,h2,_⟩:=(show ObjOk X.prog X.w H s.heap a (.dT kvs) from I.hok a _ ea);exact W.kia_one W.kitx_dict I.kIn ⟨o,h1,h2.1⟩ e (fun z=>nomatch z) h
 | @ins a C dx fs ea cl ha hn htk hm=>
  cases(show u=Value.ref a from rx);obtain⟨mA,O,_⟩:=zA6 I.hok ea;obtain⟨od,J,_⟩:=O.look;exact W.kia_one (W.kitx_own (cl.get _) cl.hd ha hn htk hm) I.kIn J e (fun z=>nomatch z) h
end
structure Room(k:Nat)(A:Around):Prop where
 hd:A.handled=none
 dp:A.depth+3*k+5<recursionLimit
 un:A.units+16*k+200<cLine
theorem Room.mono{j k:Nat}{A:Around}(r:Room k A)(h:j<=k):Room j A:=⟨r.hd,by have:=r.dp;omega,by have:=r.un;omega⟩
theorem Room.deeper{k:Nat}{A:Around}(r:Room (k+1) A)(env:Env):Room k (A.deeper env):=
 ⟨r.hd,by have:=r.dp;show A.depth+1+3*k+5<_;omega,by have:=r.un;show A.units+3+16*k+200<_;omega⟩
theorem Room.depth{k:Nat}{A:Around}(r:Room k A):A.depth<recursionLimit:=by have:=r.dp;omega
theorem Room.units{k:Nat}{A:Around}(r:Room k A):A.units+64<cLine:=by have:=r.un;omega
noncomputable def tNil:TA:=fun _ H Q=>Q [] H
noncomputable def z0B(ta:TE)(tr:TA):TA:=fun σ H Q=>ta σ H fun x H1=>tr σ H1 fun xs H2=>Q (x::xs) H2
section
variable{X:Cx}{e:Expr}{es:List Expr}{te:TE}{t:TA}{pos:Pos}
theorem pa_nil:PA X [] tNil:=fun _ _ _ _ H Q I h=>Calls.spliced_nil ⟨[],H,I,.nil,h⟩
theorem zW(ha:PE X e te)(hr:PA X es t)(hs:starEach (e::es) X.env=(false,eval e X.env)::starEach es X.env:=by rfl):PA X (e::es) (z0B te t):=by
 intro pos pins s σ H Q I h;rw[hs];show wpAny _ _ (spliced ((false,eval e X.env)::backTo pos (starEach es X.env))) _ _ s;refine Calls.spliced_cons (thn (ha pins s σ H _ I h) fun u s1 ⟨x,H1,I1,r1,q1⟩=>?_);exact thn (hr pos pins s1 σ H1 _ I1 q1) fun us s2 ⟨xs,H2,I2,r2,q2⟩=>⟨x::xs,H2,I2,.cons r1 r2,q2⟩
noncomputable def tTup(t:TA):TE:=fun σ H Q=>t σ H fun xs H1=>xs.length<=sizeLine/\∀p,H1 p=none->Q (.ref p) (upd H1 p (.tup xs))
noncomputable def tLst(t:TA):TE:=fun σ H Q=>t σ H fun xs H1=>xs.length<=sizeLine/\∀p,H1 p=none->Q (.ref p) (upd H1 p (.lst xs))
theorem zAQ{x1}(h:PA X es t):PE X (.Tuple es x1 pos) (tTup t):=by
 intro pins s σ H Q I hq;refine wpAny_Tuple_spliced (thn (h pos pins s σ H _ I hq) fun us s1 ⟨xs,H1,I1,r,z,q⟩=>⟨by rw[<-r.length];exact z,?_⟩);have hf:H1 s1.heap.objs.size=none:=I1.hok.fresh (Nat.le_refl _);refine⟨.ref s1.heap.objs.size,upd H1 s1.heap.objs.size (.tup xs),I1.laid (t':=s1.toks) (fun b u e=>Heap.get?_push_of_some _ e) (Nat.le_refl _) ?_,rfl,q _ hf⟩;exact⟨⟨z,_,Heap.get?_push_size _ rfl,rfl⟩,us,r,⟨_,Heap.get?_push_size _ rfl,rfl,_,rfl⟩⟩
theorem z6j(h:PA X es t):PE X (.List es pos) (tLst t):=by
 intro pins s σ H Q I hq;refine wpAny_List_spliced (thn (h pos pins s σ H _ I hq) fun us s1 ⟨xs,H1,I1,r,z,q⟩=>⟨by rw[<-r.length];exact z,?_⟩);have hf:H1 s1.heap.objs.size=none:=I1.hok.fresh (Nat.le_refl _);refine⟨.ref s1.heap.objs.size,upd H1 s1.heap.objs.size (.lst xs),I1.laid (t':=s1.toks) (fun b u e=>Heap.get?_push_of_some _ e) (Nat.le_refl _) ?_,rfl,q _ hf⟩;exact⟨z,us,0,r,Heap.get?_push_size _ rfl⟩
end
noncomputable abbrev Sp:=List V->Hp->VK->XK->Prop
noncomputable abbrev CXT:=List Env->Hp->Shared->XK->Value->Shared->Prop
structure Env0(P:Program)(w:World)(K:W.Frag)(mg:Str->Option Value)(base:Heap)(A:Around)(outer:List Env)(s:Shared)(H:Hp):Prop where
 frames:A.frames=some outer
 mod:Mod K mg base
 bs:∀b o,base.get? b=some o->s.heap.get? b=some o/\H b=none
 bsz:base.objs.size<=s.heap.objs.size
 funs:s.heap.FunFrames base outer
 frf:∀b∈frs outer,H b=none
 hok:HOk P w H s.heap
 bare:AllBare s.gens
def CE(outer:List Env)(P:Program)(w:World)(H:Hp)(s:Shared)(Q:VK)(u:Value)(s':Shared):Prop:=
 ∃v H',s'.os=s.os/\AllBare s'.gens/\Un (frs outer) [] H H' s.heap s'.heap/\HOk P w H' s'.heap/\RelV v u/\Q v H'
def CR(CX:CXT)(outer:List Env)(P:Program)(w:World)(H:Hp)(s:Shared)(Q:VK)(E:XK)(r:Result)(s':Shared):Prop:=
 match r with
 | .ok (.ret u)=>CE outer P w H s Q u s'
 | .ok _=>False
 | .error e=>CX outer H s E e s'
structure FnOk(P:Program)(w:World)(K:W.Frag)(mg:Str->Option Value)(base:Heap)(CX:CXT)(k:Nat)(f:Addr)(fd:FuncData)(ps:List Str)(sp:Sp):Prop where
 len:∀vs H Q E,sp vs H Q E->vs.length=ps.length
 run:∀(A:Around) (outer:List Env) (s:Shared) (H:Hp) (args:Args) (us:List Value) (vs:List V) (Q:VK) (E:XK),Room k A->Env0 P w K mg base A outer s H->BindsTo s fd args (ps.zip us)->Vals vs us->sp vs H Q E->
  codeAny (model P w) A (.call (.ref f) args) (CR CX outer P w H s Q E) s
section
variable{X:Cx}{pins:List (Addr×Obj)}{σ:St}{H:Hp}{s s':Shared}
theorem Inv.env0(I:Inv X pins σ H s):Env0 X.prog X.w X.K X.mg X.base X.A X.stack s H:=
 ⟨I.ok.frames,I.ok.mod,I.bs,Nat.le_trans I.ok.bsz I.sz,I.stack,I.stkFree,I.hok,I.bare⟩
theorem Inv.after{Q:VK}{u:Value}(I:Inv X pins σ H s)(h:CE X.stack X.prog X.w H s Q u s'):EP X pins σ Q u s':=by
 obtain⟨v,H',os,bare,un,hok,r,q⟩:=h;obtain⟨hh,g,d,t,os'⟩:=s';obtain rfl:os'=s.os:=os;exact⟨v,H',I.call (h':=hh) (g':=g) (d':=d) (t':=t) (ch:=[]) un hok bare (fun b z=>absurd z (by simp)),r,q⟩
end
noncomputable def zB3(sp:Sp)(dvs:List V)(E:XK)(t:TA):TE:=fun σ H Q=>t σ H fun vs H1=>sp (vs++dvs) H1 Q E
def Binds(K:W.Frag)(fd:FuncData)(ps:List Str)(ds:List Value):Prop:=
 ∀(s:Shared) (us:List Value),K.In s.heap->(us++ds).length=ps.length->BindsTo s fd ⟨us,[]⟩ (ps.zip (us++ds))
theorem Binds.all{K:W.Frag}{fd:FuncData}{ps:List Str}(h:∀us:List Value,us.length=ps.length->bindArgs fd ⟨us,[]⟩=pure (ps.zip us)):Binds K fd ps []:=fun s us _ hl=>by
 rw[List.append_nil]at hl |-;exact .of_eq (h us hl)
def z0c(CX:CXT)(X:Cx)(E:XK):Prop:=∀(pins:List (Addr×Obj)) (σ:St) (H:Hp) (s:Shared) (e:Value) (s':Shared),Inv X pins σ H s->CX X.stack H s E e s'->X.xe e s'
section
variable{X:Cx}{CX:CXT}{k:Nat}{f C:Addr}{fd:FuncData}{ps:List Str}{sp:Sp}{dvs:List V}{ds:List Value}{E:XK}{x m:Str}{p pos apos:Pos}{e o:Expr}{es:List Expr}{ta:TE}{t:TA}
theorem z8c{pins:List (Addr×Obj)}{σ:St}{H:Hp}{s:Shared}{Q:VK}{us:List Value}{vs:List V}(F:FnOk X.prog X.w X.K X.mg X.base CX k f fd ps sp)(hr:Room k X.A)(hb:Binds X.K fd ps ds)(hd:Vals dvs ds)(hx:z0c CX X E)
  (I:Inv X pins σ H s) (r:Vals vs us) (h:sp (vs++dvs) H Q E):wpAny (model X.prog X.w) X.A (call (.ref f) us) (EP X pins σ Q) X.xe s:=by
 have r2:Vals (vs++dvs) (us++ds):=r.append hd;have hl:(us++ds).length=ps.length:=by rw[<-r2.length];exact F.len _ _ _ _ h
 refine wpAny_call (codeAny_mono (F.run X.A X.stack s H ⟨us,[]⟩ (us++ds) (vs++dvs) Q E hr I.env0 (hb s us I.kIn hl) r2 h) fun r s' hq=>?_);cases r with
 | error e=>exact hx pins σ H s e s' I hq
 | ok fl=>
  cases fl with
  | ret u=>exact I.after hq
  | next=>exact False.elim hq
  | brk=>exact False.elim hq
  | cont=>exact False.elim hq
theorem z9t(F:FnOk X.prog X.w X.K X.mg X.base CX k f fd ps sp)(hr:Room k X.A)(hg:Gl X x)(hm:X.mg x=some (.ref f))(hk:W.keepIn X.K (.ref f)=true)(hb:Binds X.K fd ps ds)(hd:Vals dvs ds)(hx:z0c CX X E)
  (ha:PA X (e::es) t) (hdb:(x == ("__debug__":Str))=false:=by decide) (he:starEach (e::es) X.env=(false,eval e X.env)::starEach es X.env:=by rfl) (hpl:(backTo pos (starEach es X.env)).any (·.1)=false:=by rfl) :
  PE X (.Call (.Name x p) (e::es) [] pos) (zB3 sp dvs E t):=by
 intro pins s σ H Q I h;refine wpAny_Call_Name_kw (z64 I hg hm ?_ hdb);refine W.callWith_K (h₀:=X.base) I.ok.mod.kin hk (thn (ha pos pins s σ H _ I h) fun us s1 ⟨vs,H1,I1,r,q⟩=>⟨I1.kIn,?_⟩) he hpl;exact z8c F hr hb hd hx I1 r q
end
section
variable{X:Cx}{CX:CXT}{k:Nat}{f C:Addr}{fd:FuncData}{ps ks:List Str}{sp:Sp}{E:XK}{x m:Str}{p pos apos kpos:Pos}{e o:Expr}{es:List Expr}{kws:List Keyword}{te ta:TE}{t tk:TA}{nm:Option Str}
variable{g:List Value->List Value->List Value}{gV:List V->List V->List V}
end
structure FnScope(N P:List Str)(sc:Scope):Prop where
 kind:sc.kind=.function
 co:sc.isCoroutine=false
 gen:sc.isGenerator=false
 nd:N.Nodup
 pre:N.take P.length=P
 par:∀x∈P,sc.names.lookup x=some .local\/sc.names.lookup x=some .cell
 nofree:∀y∈sc.names,y.2≠.free
theorem z1K{kindOf:Str->Option NameKind}{x:Str}:∀{binds:List (Str×Value)} {m:Str->Option Value},(∀v,(x,v)∉binds)->bindL kindOf binds m x=m x
 | [],_,_=>rfl
 | (n,v)::r,m,h=>by
  unfold bindL;rw[z1K fun w hw=>h w (List.mem_cons_of_mem _ hw)];split
  ·have:x≠n:=by rintro rfl;exact h v List.mem_cons_self
   simp[this]
  ·rfl
theorem z1v{kindOf:Str->Option NameKind}{x:Str}:∀{binds:List (Str×Value)} {m:Str->Option Value},(∀v,(x,v)∉binds)->bindC kindOf binds m x=m x
 | [],_,_=>rfl
 | (n,v)::r,m,h=>by
  unfold bindC;rw[z1v fun w hw=>h w (List.mem_cons_of_mem _ hw)];split
  ·rfl
  ·have:x≠n:=by rintro rfl;exact h v List.mem_cons_self
   simp[this]
theorem z1H{kindOf:Str->Option NameKind}{x:Str}{v:Value}:∀{P:List Str} {vs:List Value} {i:Nat} {m:Str->Option Value},P.Nodup->P[i]?=some x->vs[i]?=some v->kindOf x=some .local->
  bindL kindOf (P.zip vs) m x=some v
 | [],_,_,_,_,h,_,_=>by simp at h
 | _::_,[],_,_,_,_,h,_=>by simp at h
 | p::P,w::vs,0,m,nd,h1,h2,hk=>by
  simp at h1 h2;subst h1;subst h2;show bindL kindOf ((p,w)::P.zip vs) m p=_;unfold bindL;rw[z1K fun v hv=>(List.nodup_cons.mp nd).1 (List.of_mem_zip hv).1,if_pos hk];simp
 | p::P,w::vs,i+1,m,nd,h1,h2,hk=>by
  show bindL kindOf ((p,w)::P.zip vs) m x=_;unfold bindL;exact z1H (i:=i) (List.nodup_cons.mp nd).2 (by simpa using h1) (by simpa using h2) hk
theorem z1T{kindOf:Str->Option NameKind}{x:Str}{v:Value}:∀{P:List Str} {vs:List Value} {i:Nat} {m:Str->Option Value},P.Nodup->P[i]?=some x->vs[i]?=some v->kindOf x≠some .local->
  bindC kindOf (P.zip vs) m x=some v
 | [],_,_,_,_,h,_,_=>by simp at h
 | _::_,[],_,_,_,_,h,_=>by simp at h
 | p::P,w::vs,0,m,nd,h1,h2,hk=>by
  simp at h1 h2;subst h1;subst h2;show bindC kindOf ((p,w)::P.zip vs) m p=_;unfold bindC;rw[z1v fun v hv=>(List.nodup_cons.mp nd).1 (List.of_mem_zip hv).1,if_neg hk];simp
 | p::P,w::vs,i+1,m,nd,h1,h2,hk=>by
  show bindC kindOf ((p,w)::P.zip vs) m x=_;unfold bindC;exact z1T (i:=i) (List.nodup_cons.mp nd).2 (by simpa using h1) (by simpa using h2) hk
noncomputable def start(N:List Str)(vs:List V):St:=vs.map some++List.replicate (N.length - vs.length) none
noncomputable def cxOf(CX:CXT)(P:Program)(w:World)(K:W.Frag)(mg:Str->Option Value)(base:Heap)(N:List Str)(qual:Str)(scope:Scope)(f:Addr)(cd:Value)(A:Around)(outer:List Env)(s:Shared)(H:Hp)(E:XK):Cx where
 prog:=P
 w:=w
 K:=K
 mg:=mg
 base:=base
 A:=A.deeper (envOfC qual scope s.heap.objs.size f cd)
 N:=N
 s₀:=s
 H₀:=H
 env:=envOfC qual scope s.heap.objs.size f cd
 outer:=outer
 stack:=envOfC qual scope s.heap.objs.size f cd::outer
 ex:=[]
 calm:=true
 fn:=fun _=>true
 pn:=[]
 xe:=fun e s'=>wpAny (model P w) (A.deeper (envOfC qual scope s.heap.objs.size f cd)) (leaving (envOfC qual scope s.heap.objs.size f cd) e) (fun _ s''=>CX outer H s E e s'') (fun e' s''=>CX outer H s E e' s'') s'
theorem z3k{sc:Scope}{n:Nat}{x:Str}(h:sc.names.lookup x=some .cell):∃c,(cellsFrom n sc.names []).lookup x=some c:=by
 have q:=W.cellsFrom_some sc.names n [] (.inl h);exact Option.isSome_iff_exists.mp q
theorem z6W{CX:CXT}{P:Program}{w:World}{K:W.Frag}{mg:Str->Option Value}{base:Heap}{N ps:List Str}{qual:Str}{scope:Scope}{f:Addr}{cd:Value}{A:Around}{outer:List Env}{s s1:Shared}{H:Hp}{E:XK}{us:List Value}{vs:List V}
  (S:FnScope N ps scope) (hd:A.handled=none) (e0:Env0 P w K mg base A outer s H) (hl:vs.length=ps.length) (r:Vals vs us)
  (x:InCallC s s.heap.objs.size (bindL (envOfC qual scope s.heap.objs.size f cd).kindOf (ps.zip us) fun _=>none) (cellsFrom (s.heap.objs.size+1) scope.names []) (bindC (envOfC qual scope s.heap.objs.size f cd).kindOf (ps.zip us) fun _=>none) s1) :
  Inv (cxOf CX P w K mg base N qual scope f cd A outer s H E) [] (start N vs) H s1:=by
 have hpl:ps.length<=N.length:=by have:=congrArg List.length S.pre;rw[List.length_take]at this;omega
 obtain⟨h1,tk,rfl,hk⟩:=x.done;have noA:∀b:Addr,b∉(cxOf CX P w K mg base N qual scope f cd A outer s H E).ex:=fun b z=>absurd (show b∈([]:List Addr) from z) (by simp);refine⟨⟨e0.mod,S.kind,rfl,rfl,Nat.le_refl _,fun y z c h1 h2=>?_,fun y hy=>?_,fun y c _ h=>?_,fun _=>hd,Around.frames_deeper e0.frames,.inr ⟨rfl,rfl⟩,fun b z=>absurd z (noA b),e0.bs,e0.bsz,fun b _ _=>noA b,fun b z=>absurd z (noA b),e0.funs,e0.frf⟩,
  rfl,e0.bare,Un.kept hk,⟨_,x.toInCall.ns,fun i y v h1 h2 h3=>?_⟩,fun y c h=>⟨_,x.cell y c h⟩,e0.hok.fresh (Nat.le_refl _),fun y c h=>?_,fun p hp=>absurd (show p∈([]:List (Addr×Obj)) from hp) (by simp),e0.hok.kept hk,?_⟩
 ·exact name_of_addr x.apart (PySem.mem_of_lookup h1) (PySem.mem_of_lookup h2)
 ·have hy:scope.names.lookup y=some .cell\/scope.names.lookup y=some .free:=hy;rcases hy with hy | hy
  ·exact z3k hy
  ·exact absurd rfl (S.nofree _ (PySem.mem_of_lookup hy))
 ·exact Nat.le_of_lt (x.above y c (PySem.mem_of_lookup h))
 ·have hi:i<vs.length:=by
   unfold start at h2;by_cases hi:i<vs.length
   ·exact hi
   ·rw[List.getElem?_append_right (by simpa using hi)]at h2;rw[List.getElem?_replicate]at h2;split at h2<;>cases h2
  have ha:vs[i]?=some v:=by
   unfold start at h2;rw[List.getElem?_append_left (by simpa using hi),List.getElem?_map]at h2;cases e:vs[i]? with
   | none=>rw[e]at h2;cases h2
   | some a=>rw[e]at h2;cases h2;rfl
  obtain⟨u,hu,rv⟩:=r.get ha;have hp:ps[i]?=some y:=by
   rw[<-S.pre,List.getElem?_take_of_lt (by omega)];exact h1
  have ndP:ps.Nodup:=by rw[<-S.pre];exact S.nd.sublist (List.take_sublist _ _)
  refine⟨u,rv,?_⟩;rcases S.par y (List.mem_of_getElem? hp)with k | k
  ·exact .inl ⟨k,z1H ndP hp hu k⟩
  ·obtain⟨c,e⟩:=z3k (n:=s.heap.objs.size+1) k;refine .inr ⟨.inl k,c,e,?_⟩;have q:=x.cell y c e;rw[z1T ndP hp hu (by show scope.names.lookup y≠_;rw[k];decide)]at q;exact q
 ·exact e0.hok.fresh (Nat.le_of_lt (x.above y c (PySem.mem_of_lookup h)))
 ·unfold start;show _=N.length;rw[List.length_append,List.length_map,List.length_replicate];omega
theorem zCi{CX:CXT}{P:Program}{w:World}{K:W.Frag}{mg:Str->Option Value}{base:Heap}{k:Nat}{f:Addr}{name qual:Str}{params:Arguments}{body:List Stmt}{scope:Scope}{dV kV doc pm cdv ct oc:Value}{an od:Option Addr}
  {osl:Array (Option Value)} {N ps:List Str} {sp:Sp} (lk:K.lookup f=some ⟨oc,od,.func (W.fnOf name qual params body scope dV kV doc pm an cdv ct),osl⟩) (hcd:W.codeIn K cdv qual=true) (S:FnScope N ps scope)
  (len:∀vs H Q E,sp vs H Q E->vs.length=ps.length)
  (hbody:∀(A:Around) (outer:List Env) (s:Shared) (H:Hp) (vs:List V) (Q:VK) (E:XK),Room k (A.deeper (envOfC qual scope s.heap.objs.size f cdv))->sp vs H Q E->
   ∃t,PSs (cxOf CX P w K mg base N qual scope f cdv A outer s H E) body t/\t { nx:=fun _ H'=>Q .non H',rt:=Q } (start N vs) H) :
  FnOk P w K mg base CX (k+1) f (W.fnOf name qual params body scope dV kV doc pm an cdv ct) ps sp:=by
 refine⟨len,fun A outer s H args us vs Q E hr e0 hb r hsp=>?_⟩;have hl:=len _ _ _ _ hsp;have KX:K.In s.heap:=e0.mod.kin.keeps fun b o e=>(e0.bs b o e).1;have lim:s.heap.NoLimit:=e0.mod.nolimit.keeps fun b o e=>(e0.bs b o e).1;have hkind:∀y∈ps.zip us,scope.names.lookup y.1=some .local\/(scope.names.lookup y.1=some .cell/\((cellsFrom (s.heap.objs.size+1) scope.names []).lookup y.1).isSome=true):=fun⟨n,v⟩ hy=>by
  rcases S.par n (List.of_mem_zip hy).1 with q | q
  ·exact .inl q
  ·exact .inr ⟨q,W.cellsFrom_some _ _ _ (.inl q)⟩
 refine codeAny_call_function hr.depth (KX _ _ lk) rfl S.co S.gen rfl (W.codeRec_of KX hcd) (hb _ _ _ _ ?_);refine wpAny_newFunctionEnv_cells S.kind hkind fun env he s1 x=>?_;subst he;refine⟨lim.keeps x.toInCall.keep,codeAny_func ?_⟩;obtain⟨t,ht,hq⟩:=hbody A outer s H vs Q E (hr.deeper _) hsp;have I:Inv (cxOf CX P w K mg base N qual scope f cdv A outer s H E) [] (start N vs) H s1:=z6W S hr.hd e0 hl r x;refine wpAny_mono (ht [] s1 (start N vs) H _ I hq) (fun fl s' hs=>?_) fun e s' hs=>hs;have fin:∀{σ':St} {H':Hp} {v:V} {u:Value},Inv (cxOf CX P w K mg base N qual scope f cdv A outer s H E) [] σ' H' s'->RelV v u->Q v H'->CE outer P w H s Q u s':=
  fun{σ' H' v u} J rv q=>⟨v,H',J.os,J.bare,J.base,J.hok,rv,q⟩
 cases fl with
 | ret u=>
  obtain⟨v,σ',H',J,rv,q⟩:=hs;exact fin J rv q
 | next=>
  obtain⟨σ',H',J,q⟩:=hs;exact fin (v:=V.non) (u:=Value.none) J rfl q
 | brk=>
  obtain⟨_,_,_,q⟩:=hs;exact False.elim q
 | cont=>
  obtain⟨_,_,_,q⟩:=hs;exact False.elim q
section
variable{X:Cx}{x:Str}{p pos:Pos}{e:Expr}{es:List Expr}{t:TA}{id T:String}{r:List V->Hp->VK->Prop}
noncomputable def tCB(r:List V->Hp->VK->Prop)(t:TA):TE:=fun σ H Q=>t σ H fun vs H1=>r vs H1 Q
theorem yB(hc:CallR X (.builtin id) r)(hg:Gl X x)(hm:X.mg x=none)(hv:bootBuiltins x=some (.builtin id))(ha:PA X (e::es) t)(hn:x≠"__name__":=by decide)(hdb:(x == ("__debug__":Str))=false:=by decide)
  (he:starEach (e::es) X.env=(false,eval e X.env)::starEach es X.env:=by rfl) (hpl:(backTo pos (starEach es X.env)).any (·.1)=false:=by rfl):PE X (.Call (.Name x p) (e::es) [] pos) (tCB r t):=by
 intro pins s σ H Q I h;refine wpAny_Call_Name_kw (uh I hg hm hv ?_ hn hdb);exact PyProof.Rows.callWith_builtin1 (thn (ha pos pins s σ H _ I h) fun us s1 ⟨vs,H1,I1,r1,q1⟩=>hc pins s1 σ H1 vs us Q I1 r1 q1) he hpl
theorem xH(hc:CallR X (.type T) r)(hg:Gl X x)(hm:X.mg x=none)(hv:bootBuiltins x=some (.type T))(ha:PA X (e::es) t)(hn:x≠"__name__":=by decide)(hdb:(x == ("__debug__":Str))=false:=by decide)
  (he:starEach (e::es) X.env=(false,eval e X.env)::starEach es X.env:=by rfl) (hpl:(backTo pos (starEach es X.env)).any (·.1)=false:=by rfl):PE X (.Call (.Name x p) (e::es) [] pos) (tCB r t):=by
 intro pins s σ H Q I h;refine wpAny_Call_Name_kw (uh I hg hm hv ?_ hn hdb);exact PyProof.Rows.callWith_type1 (thn (ha pos pins s σ H _ I h) fun us s1 ⟨vs,H1,I1,r1,q1⟩=>hc pins s1 σ H1 vs us Q I1 r1 q1) he hpl
end
end L2
namespace HT
open PySem PyProof.Rows
noncomputable def lexLt:List Int->List Int->Bool
 | [],[]=>false
 | [],_::_=>true
 | _::_,[]=>false
 | x::xs,y::ys=>if x=y then lexLt xs ys else decide (x<y)
theorem lexLt_cons(x y:Int)(xs ys:List Int):lexLt (x::xs) (y::ys)=if x=y then lexLt xs ys else decide (x<y):=rfl
theorem lexLt_nil_nil:lexLt [] []=false:=rfl
theorem z07(y:Int)(ys:List Int):lexLt [] (y::ys)=true:=rfl
theorem z08(x:Int)(xs:List Int):lexLt (x::xs) []=false:=rfl
theorem z73(A:Around)(s:Shared)(a:Int)(t:Tok)(c:Int)(u:Tok):∃e,SeqAt.EqAt A s (.int a t) (.int c u) e/\(e=true↔a=c):=
 ⟨(a == c),SeqAt.EqAt.int_int a t c u,by simp⟩
theorem z7e(A:Around)(s:Shared)(a:Int)(t:Tok)(c:Int)(u:Tok)(prog:Program)(w:World)(E:Value->Shared->Prop)(Q:Value->Shared->Prop)(h:Q (.bool (decide (a<c))) s):
  wpAny (model prog w) A (richCompare .Lt (.int a t) (.int c u)) Q E s:=
 (PyProof.Rows.lt_int h:wpAny (model prog w) A (compareOp .Lt (.int a t) (.int c u)) Q E s)
section
open PySem.SeqAt
open PySem.AutoSeq1 (wpAny_loadPart')
open PySem.MeetsSeq PySem.MeetsSeq2 PySem.MeetsSeq3
theorem z1C(l b:Addr)(items items2:Array Value)(n n2:Nat)(dd dd2:Option Addr)(sl sl2:Array (Option Value))(ns ms:List Int)(hi:IntsAre items.toList ns)(hj:IntsAre items2.toList ms):
  Meets (Builtin.«tuple.__lt__» ⟨[.ref l,.ref b],[]⟩)
   (fun _ R s=>s.heap.get? l=some { cls:=.type "tuple",dict:=dd,data:=.seq items n,slots:=sl }/\s.heap.get? b=some { cls:=.type "tuple",dict:=dd2,data:=.seq items2 n2,slots:=sl2 }/\
    R (.ok (.ret (.bool (lexLt ns ms)))) s):=
 .of_wp fun prog w A R s h=>by
  obtain⟨hp,g,d,tk,os⟩:=s;obtain⟨hl,hb,h⟩:=h;have f2:=AutoSeq1.sub_tuple_tuple;have z1:items.size=ns.length:=by rw[<-hi.length];simp
  have z2:items2.size=ms.length:=by rw[<-hj.length];simp
  wp_walk using wpAny_loadPart' hl,wpAny_loadPart' hb,wpAny_forIn_list _ (fun rest b s'=>b.1=none/\s'=⟨hp,g,d,tk,os⟩/\∃(vs ws:List Value) (ns' ms':List Int),rest=vs.zip ws/\
   IntsAre vs ns'/\IntsAre ws ms'/\ns'.length+items2.size=ms'.length+items.size/\R (.ok (.ret (.bool (lexLt ns' ms')))) ⟨hp,g,d,tk,os⟩) _
  case turn=>
   rintro⟨y,x⟩ rest b s' ⟨hb',rfl,vs,ws,ns',ms',hz,hvi,hwi,hlen,hR⟩;cases hvi with
   | nil=>rw[List.zip_nil_left]at hz;cases hz
   | cons a t hvi'=>
    cases hwi with
    | nil=>rw[List.zip_nil_right]at hz;cases hz
    | cons c u hwi'=>
     rw[List.zip_cons_cons]at hz;injection hz with hyx hrest
     injection hyx with hy hx
     subst hy hx;rw[lexLt_cons]at hR;simp only[List.length_cons]at hlen;obtain⟨e,he,hiff⟩:=z73 A.in1 ⟨hp,g,d,tk,os⟩ a t c u;refine wpAny_bind (he prog w _ _ ?_);cases e with
     | true=>
      rw[if_pos (hiff.mp rfl)]at hR
      wp_walk
      exact⟨rfl,rfl,_,_,_,_,hrest,hvi',hwi',by omega,hR⟩
     | false=>
      rw[if_neg (fun q=>absurd (hiff.mpr q) Bool.false_ne_true)]at hR;have hri:=z7e A.in1 ⟨hp,g,d,tk,os⟩ a t c u prog w
      wp_walk using hri
      exact⟨_,rfl,by simpa using hR⟩
  case fin=>
   rintro⟨b1,b2⟩ s' ⟨hb',rfl,vs,ws,ns',ms',hz,hvi,hwi,hlen,hR⟩;simp only at hb';subst hb';have hv:lexLt ns' ms'=decide (items.size<items2.size):=by
    cases hvi with
    | nil=>
     cases hwi with
     | nil=>
      simp only[List.length_nil]at hlen;rw[lexLt_nil_nil];exact(decide_eq_false (by omega)).symm
     | cons c u hw=>
      simp only[List.length_nil,List.length_cons]at hlen;rw[z07];exact(decide_eq_true (by omega)).symm
    | cons a t hv=>
     cases hwi with
     | nil=>
      simp only[List.length_nil,List.length_cons]at hlen;rw[z08];exact(decide_eq_false (by omega)).symm
     | cons c u hw=>
      rw[List.zip_cons_cons]at hz;cases hz
   rw[hv]at hR
   wp_walk
   exact⟨_,rfl,by simpa[Builtin.Tuple.tupleCompareSizes]using hR⟩
  case h=>
   exact⟨rfl,rfl,items.toList,items2.toList,ns,ms,rfl,hi,hj,by omega,h⟩
end
section
variable{prog:Program}{w:World}{A:Around}{E:Value->Shared->Prop}{s:Shared}
theorem lt_tupInts{l b:Addr}{items items2:Array Value}{ns ms:List Int}{Q:Value->Shared->Prop}(hl:IsTup s.heap l items)(hb:IsTup s.heap b items2)(hi:IntsAre items.toList ns)(hj:IntsAre items2.toList ms)
  (hu:A.units<cLine) (h:Q (.bool (lexLt ns ms)) s):wpAny (model prog w) A (compareOp .Lt (.ref l) (.ref b)) Q E s:=by
 obtain⟨⟨cls,dd,data,sl⟩,ho,hc,n,hd⟩:=id hl;obtain⟨⟨cls2,dd2,data2,sl2⟩,ho2,hc2,n2,hd2⟩:=id hb;simp only at hc hd hc2 hd2;subst hc hd hc2 hd2;exact richCompare_meets_room (op:=.Lt) ⟨_,ho,rfl⟩ ⟨_,ho2,rfl⟩ PySem.F.slot_tuple_lt PySem.F.entry_tuple_lt (PySem.F.args_tuple_lt_2 _ _) (z1C l b items items2 n n2 dd dd2 sl sl2 ns ms hi hj)
  ⟨ho,ho2,show Value.bool (lexLt ns ms)≠Value.notImplemented/\Q (.bool (lexLt ns ms)) s from⟨(fun x=>nomatch x),h⟩⟩ hu
theorem cat_tup{t b:Addr}{vs ws:List Value}{Q:Value->Shared->Prop}(ht:IsTup s.heap t vs.toArray)(hb:IsTup s.heap b ws.toArray)(hv:vs≠[])
  (h1:ws=[]->Q (.ref t) s) (h2:ws≠[]->Q (.ref s.heap.objs.size) { s with heap:=s.heap.push { cls:=.type "tuple",data:=.seq (vs++ws).toArray } })
  (hsz:vs.length+ws.length<=sizeLine):wpAny (model prog w) A (binaryOp .Add (.ref t) (.ref b)) Q E s:=by
 obtain⟨⟨cls,dd,data,sl⟩,ho,hc,n,hd⟩:=id ht;obtain⟨⟨cls2,dd2,data2,sl2⟩,ho2,hc2,n2,hd2⟩:=id hb;simp only at hc hd hc2 hd2;subst hc hd hc2 hd2;have e:vs.toArray++ws.toArray=(vs++ws).toArray:=by simp
 by_cases hw:ws=[]
 ·exact concat_meets ⟨_,ho,rfl⟩ ⟨_,ho2,rfl⟩ noFill_tuple_add seq_tuple_add PySem.F.slot_tuple_add PySem.F.entry_tuple_add (PySem.F.args_tuple_add_2 _ _)
   (tuple_addW1 t b vs.toArray ws.toArray n n2 dd dd2 sl sl2 (by simpa using hv) (by simp[hw])) ⟨ho,ho2,h1 hw⟩
 ·refine concat_meets ⟨_,ho,rfl⟩ ⟨_,ho2,rfl⟩ noFill_tuple_add seq_tuple_add PySem.F.slot_tuple_add PySem.F.entry_tuple_add (PySem.F.args_tuple_add_2 _ _)
   (tuple_addW2 t b vs.toArray ws.toArray n n2 dd dd2 sl sl2 (by simpa using hv) (by simpa using hw) (by rw[List.size_toArray,List.size_toArray];exact hsz)) ⟨ho,ho2,?_⟩
  rw[e];exact h2 hw
noncomputable def sIx(n d:Nat):Option Int->Nat
 | none=>d
 | some v=>if v<0 then(v+(n:Int)).toNat else min v.toNat n
theorem zBO(n d:Nat)(hd:d<=n)(o:Option Int):sIx n d o<=n:=by
 cases o with
 | none=>exact hd
 | some v=>
  show(if v<0 then(v+(n:Int)).toNat else min v.toNat n)<=n;by_cases hv:v<0
  ·rw[if_pos hv];omega
  ·rw[if_neg hv];exact Nat.min_le_right _ _
theorem z5y(v:Int)(n d:Nat):(if v<0 then max (v+(n:Int)) 0 else min v (n:Int))=((sIx n d (some v):Nat):Int):=by
 show(if v<0 then max (v+(n:Int)) 0 else min v (n:Int))=(((if v<0 then(v+(n:Int)).toNat else min v.toNat n):Nat):Int);by_cases hv:v<0
 ·simp only[if_pos hv];omega
 ·simp only[if_neg hv];omega
theorem z46(lo hi:Option Int)(n:Nat):Builtin.Slice.sliceAdjust lo hi 1 (n:Int)=(((sIx n 0 lo:Nat):Int),((sIx n n hi:Nat):Int)):=by
 have h1:¬((1:Int)<0):=by omega
 unfold Builtin.Slice.sliceAdjust;simp only[h1,if_false];refine Prod.ext ?_ ?_
 ·cases lo with
  | none=>rfl
  | some v=>exact z5y v n 0
 ·cases hi with
  | none=>rfl
  | some v=>exact z5y v n n
theorem z4C(i j:Nat):Builtin.Slice.slicePlaces (i:Int) (j:Int) 1=j - i:=by
 unfold Builtin.Slice.slicePlaces;have h1:(1:Int)>0:=by omega
 simp only[h1,if_true,Int.ediv_one];split<;>omega
theorem z0M{v:Value}{o:Option Int}{Q:Option Int->Shared->Prop}(p:IsPart v o)(h:Q o s):wpAny (model prog w) A (Builtin.Slice.slicePartIndex v) Q E s:=by
 cases p with
 | none=>exact slicePart_none h
 | int i t=>exact slicePart_int h
theorem sliceApplied_gen{sl:Addr}{vl vu:Value}{lo hi:Option Int}{n:Nat}{Q:Int×Int×Nat->Shared->Prop}(hs:s.heap.IsSliceOf sl vl vu .none)(pl:IsPart vl lo)(pu:IsPart vu hi)
  (h:Q (((sIx n 0 lo:Nat):Int),1,sIx n n hi - sIx n 0 lo) s):wpAny (model prog w) A (Builtin.Slice.sliceApplied (.ref sl) (pure (n:Int))) Q E s:=by
 obtain⟨os,hos,hcs,hds⟩:=id hs;unfold Builtin.Slice.sliceApplied Builtin.Slice.sliceFields;refine wpAny_bind (wpAny_bind (wpAny_field hos hds (x:=vl) rfl (wpAny_bind (wpAny_field hos hds (x:=vu) rfl (wpAny_bind (wpAny_field hos hds (x:=.none) rfl (wpAny_pure ?_)))))));refine wpAny_bind (slicePart_none ?_);show wpAny _ _ (if ((1:Int) == 0)=true then _ else _) _ _ s;rw[if_neg (by decide)];refine wpAny_bind (z0M pl (wpAny_bind (z0M pu (wpAny_bind (wpAny_pure ?_)))));show wpAny _ _ (match Builtin.Slice.sliceAdjust lo hi 1 (n:Int)with | (lo,hi)=>pure (lo,(1:Int),Builtin.Slice.slicePlaces lo hi 1)) _ _ s;rw[z46 lo hi n];show wpAny _ _ (pure (((sIx n 0 lo:Nat):Int),(1:Int),Builtin.Slice.slicePlaces ((sIx n 0 lo:Nat):Int) ((sIx n n hi:Nat):Int) 1)) _ _ s;rw[z4C];exact wpAny_pure h
theorem z7S(xs:Array Value)(i k:Nat):((List.range k).filterMap fun(m:Nat)=>xs[((i:Int)+(m:Int)*1).toNat]?).toArray=((xs.toList.drop i).take k).toArray:=by
 have e:(fun(m:Nat)=>xs[((i:Int)+(m:Int)*1).toNat]?)=fun m=>xs[i+m]?:=by
  funext m
  have:((i:Int)+(m:Int)*1).toNat=i+m:=by omega
  rw[this]
 rw[e]
 have:=pick_run xs i k;rw[List.filterMap_map]at this;have e2:((fun x=>xs[x]?)∘fun x=>i+x)=fun m=>xs[i+m]?:=rfl;rw[e2]at this;rw[this]
theorem getItem_tuple_cut{t sl:Addr}{items:Array Value}{vl vu:Value}{lo hi:Option Int}{Q:Value->Shared->Prop}(ht:IsTup s.heap t items)(hs:s.heap.IsSliceOf sl vl vu .none)(pl:IsPart vl lo)(pu:IsPart vu hi)
  (hw:¬(sIx items.size 0 lo=0/\sIx items.size items.size hi=items.size))
  (h:Q (.ref s.heap.objs.size) { s with heap:=s.heap.push { cls:=.type "tuple",data:=.seq ((items.toList.drop (sIx items.size 0 lo)).take (sIx items.size items.size hi - sIx items.size 0 lo)).toArray } })
  (hsz:items.size<=sizeLine):wpAny (model prog w) A (getItem (.ref t) (.ref sl)) Q E s:=by
 have htake:sizeOk (.seq ((items.toList.drop (sIx items.size 0 lo)).take (sIx items.size items.size hi - sIx items.size 0 lo)).toArray):=by
  show((items.toList.drop (sIx items.size 0 lo)).take (sIx items.size items.size hi - sIx items.size 0 lo)).toArray.size<=sizeLine;rw[List.size_toArray,List.length_take,List.length_drop,Array.length_toList];omega
 have hj:sIx items.size items.size hi<=items.size:=zBO _ _ (Nat.le_refl _) hi;obtain⟨os,hos,hcs,hds⟩:=id hs;have hTs:s.TypeIs (.ref sl) "slice":=⟨os,hos,hcs⟩;unfold getItem
 try with_reducible refine wpAny_holding ?_
 first | refine wpAny_bind (wpAny_pure ?_) | skip
 refine wpAny_bind (wpAny_sequenceKey ht.typeIs (by decide) ?_);refine wpAny_bind (wpAny_callSpecial?_slot (name:=Str.ofString "__getitem__") ht.typeIs PyProof.Rows.slot_tuple_getitem
  (wpAny_call_entry PyProof.Rows.slot_tuple_getitem ht.typeIs entry_tuple_getitem ?_ (args_tuple_getitem _ _)))
 show wpAny _ _ (Builtin.Tuple.tupleItemsOf (.ref t) >>= _) _ _ s;refine wpAny_bind (tupleItemsOf_ ht ?_);refine wpAny_bind (wpAny_typeOf hTs ?_);rw[if_pos (by decide)];refine wpAny_bind (sliceApplied_gen hs pl pu ?_);have hno:¬((((sIx items.size 0 lo:Nat):Int) == 0 && (1:Int) == 1 && (sIx items.size items.size hi - sIx items.size 0 lo) == items.size)=true):=by
  intro q;rw[Bool.and_eq_true,Bool.and_eq_true]at q;have q1:((sIx items.size 0 lo:Nat):Int)=0:=eq_of_beq q.1.1;have q2:sIx items.size items.size hi - sIx items.size 0 lo=items.size:=eq_of_beq q.2;exact hw ⟨by omega,by omega⟩
 show wpAny _ _ (if (((sIx items.size 0 lo:Nat):Int) == 0 && (1:Int) == 1 && (sIx items.size items.size hi - sIx items.size 0 lo) == items.size)=true then _ else _) _ _ s;rw[if_neg hno,z7S]
 first
  | exact wpAny_bind (m:=Builtin.Tuple.tupleExact _) (wpAny_newObj_type (wpAny_pure ⟨_,rfl,wpAny_pure h⟩) htake)
  | exact wpAny_bind (m:=Builtin.Tuple.tupleExact _) (wpAny_newObj_type (wpAny_bind (wpAny_pure (wpAny_pure ⟨_,rfl,wpAny_pure h⟩))) htake)
  | exact wpAny_bind (wpAny_bind (m:=Builtin.Tuple.tupleExact _) (wpAny_newObj_type (wpAny_pure (wpAny_pure ⟨_,rfl,wpAny_pure h⟩)) htake))
  | exact wpAny_bind (wpAny_bind (m:=Builtin.Tuple.tupleExact _) (wpAny_newObj_type (wpAny_pure ⟨_,rfl,wpAny_pure h⟩) htake))
end
end HT
namespace L2
open PySem PySem.Spec PyProof.Rows
noncomputable abbrev TO:=St->Hp->(Option Int->Hp->Prop)->Prop
def PO(X:Cx)(e:Option Expr)(t:TO):Prop:=
 ∀(pins:List (Addr×Obj)) (s:Shared) (σ:St) (H:Hp) (Q:Option Int->Hp->Prop),Inv X pins σ H s->t σ H Q->
  wpAny (model X.prog X.w) X.A (evalPart e X.env) (fun u s'=>∃o H',Inv X pins σ H' s'/\IsPart u o/\Q o H') X.xe s
noncomputable def zAA:TO:=fun _ H Q=>Q none H
noncomputable def zCu(t:TE):TO:=fun σ H Q=>t σ H fun x H1=>∃i,x=.int i/\Q (some i) H1
theorem intsAre_of{ns:List Int}:∀{us:List Value},Vals (ns.map V.int) us->IntsAre us ns:=by
 induction ns with
 | nil=>intro us r;rw[List.map_nil]at r;cases r;exact .nil
 | cons n ns ih=>
  intro us r;rw[List.map_cons]at r;cases r with
  | cons r1 r2=>
   obtain⟨t,e⟩:=r1;subst e;exact .cons n t (ih r2)
section
variable{X:Cx}{e:Expr}{te:TE}{lo hi:Option Expr}{tl th:TO}{pos p2:Pos}
theorem po_none:PO X none zAA:=by
 intro pins s σ H Q I h;rw[evalPart_none];exact wpAny_pure ⟨none,H,I,.none,h⟩
theorem zAI(h:PE X e te):PO X (some e) (zCu te):=by
 intro pins s σ H Q I hw;rw[evalPart_some];refine thn (h pins s σ H _ I hw) fun u s1 ⟨x,H1,I1,r1,q1⟩=>?_;obtain⟨i,rfl,q⟩:=q1;obtain⟨t,rfl⟩:=r1;exact⟨some i,H1,I1,.int i t,q⟩
def SlR(X:Cx)(r:V->Option Int->Option Int->Hp->VK->Prop):Prop:=
 ∀(pins:List (Addr×Obj)) (s:Shared) (σ:St) (H:Hp) (x:V) (v vl vu:Value) (lo hi:Option Int) (sl:Addr) (Q:VK),Inv X pins σ H s->RelV x v->s.heap.IsSliceOf sl vl vu .none->IsPart vl lo->IsPart vu hi->r x lo hi H Q->
  ∃T id,typeLookup (.type T) "__getitem__"=pure (some (.builtin id))/\s.TypeIs v T/\wpAny (model X.prog X.w) X.A (getItem v (.ref sl)) (EP X pins σ Q) X.xe s
theorem SlR.or{r r':V->Option Int->Option Int->Hp->VK->Prop}(h:SlR X r)(h':SlR X r'):SlR X (fun x lo hi H Q=>r x lo hi H Q\/r' x lo hi H Q):=by
 intro pins s σ H x v vl vu lo hi sl Q I rx hs pl pu q;rcases q with q | q
 ·exact h pins s σ H x v vl vu lo hi sl Q I rx hs pl pu q
 ·exact h' pins s σ H x v vl vu lo hi sl Q I rx hs pl pu q
noncomputable def tSl(r:V->Option Int->Option Int->Hp->VK->Prop)(te:TE)(tl th:TO):TE:=fun σ H Q=>te σ H fun x H1=>tl σ H1 fun l H2=>th σ H2 fun u H3=>r x l u H3 Q
theorem z7i{r:V->Option Int->Option Int->Hp->VK->Prop}(hr:SlR X r)(he:PE X e te)(hl:PO X lo tl)(hu:PO X hi th):PE X (.Subscript e (.Slice lo hi none p2) pos) (tSl r te tl th):=by
 intro pins s σ H Q I h;refine Subscript_ (thn (he pins s σ H _ I h) fun v s1 ⟨x,H1,I1,r1,q1⟩=>?_);refine wpAny_Slice (thn (hl pins s1 σ H1 _ I1 q1) fun vl s2 ⟨l,H2,I2,pl,q2⟩=>thn (hu pins s2 σ H2 _ I2 q2) fun vu s3 ⟨u,H3,I3,pu,q3⟩=>?_);rw[evalPart_none];refine wpAny_pure ?_;have I4:Inv X pins σ H3 { s3 with heap:=s3.heap.push { cls:=.type "slice",data:=.fields #[vl,vu,.none] } }:=I3.kept (t':=s3.toks) fun b ob q=>Heap.get?_push_of_some _ q;obtain⟨T,id,hT,ht,hg⟩:=hr pins { s3 with heap:=s3.heap.push { cls:=.type "slice",data:=.fields #[vl,vu,.none] } } σ H3 x v vl vu l u s3.heap.objs.size Q I4 r1 (Heap.IsSliceOf.new ..) pl pu q3;show wpAny (model X.prog X.w) X.A (subscriptTail e (.Slice lo hi none p2) v (.ref s3.heap.objs.size)) (EP X pins σ Q) X.xe { s3 with heap:=s3.heap.push { cls:=.type "slice",data:=.fields #[vl,vu,.none] } };exact tail_any (ops:=[.ref s3.heap.objs.size,v]) ht hT hg (by with_unfolding_all rfl)
noncomputable def cutV(xs:List V)(lo hi:Option Int):List V:=(xs.drop (HT.sIx xs.length 0 lo)).take (HT.sIx xs.length xs.length hi - HT.sIx xs.length 0 lo)
theorem uc(xs:List V)(lo hi:Option Int):(cutV xs lo hi).length<=xs.length:=by
 unfold cutV;rw[List.length_take,List.length_drop];omega
noncomputable def rSlT(K:W.Frag):V->Option Int->Option Int->Hp->VK->Prop:=fun x lo hi H Q=>∃a xs,x=.ref a/\SqT K H a xs/\
 ¬(HT.sIx xs.length 0 lo=0/\HT.sIx xs.length xs.length hi=xs.length)/\∀p,H p=none->Q (.ref p) (upd H p (.tup (cutV xs lo hi)))
theorem zAr:SlR X (rSlT X.K):=by
 intro pins s σ H x v vl vu lo hi sl Q I rx hs pl pu h;obtain⟨a,xs,rfl,hx,hw,q⟩:=h;cases rx;obtain⟨its,r,ht,hz⟩:=I.tuple hx;have hlen:its.toArray.size=xs.length:=by rw[List.size_toArray];exact r.length.symm
 refine⟨"tuple",_,PyProof.Rows.slot_tuple_getitem.lookup,ht.typeIs,?_⟩;refine HT.getItem_tuple_cut ht hs pl pu (by rw[hlen];exact hw) ?_ (by rw[hlen];exact hz);rw[hlen];refine⟨.ref s.heap.objs.size,_,I.laid (t':=s.toks) (o:=.tup (cutV xs lo hi)) (fun b ob q=>Heap.get?_push_of_some _ q) (Nat.le_refl _) ?_,rfl,q _ (I.hok.fresh (Nat.le_refl _))⟩;exact⟨⟨Nat.le_trans (uc xs lo hi) hz,_,Heap.get?_push_size _ rfl,rfl⟩,_,(r.drop (HT.sIx xs.length 0 lo)).take (HT.sIx xs.length xs.length hi - HT.sIx xs.length 0 lo),IsTup.new _ _⟩
noncomputable def rLtT(K:W.Frag):R2:=fun x y H Q=>∃a b ns ms,x=.ref a/\y=.ref b/\SqT K H a (ns.map V.int)/\SqT K H b (ms.map V.int)/\Q (.bl (HT.lexLt ns ms)) H
theorem zBy(hu:X.A.units<cLine):OpR X (compareOp .Lt) (rLtT X.K):=by
 intro pins s σ H x y v u Q I rx ry h;obtain⟨a,b,ns,ms,rfl,rfl,ha,hb,q⟩:=h;cases rx;cases ry;obtain⟨its,r1,p1,_⟩:=I.tuple ha;obtain⟨its2,r2,p2,_⟩:=I.tuple hb;have i1:IntsAre its.toArray.toList ns:=intsAre_of r1;have i2:IntsAre its2.toArray.toList ms:=intsAre_of r2;exact HT.lt_tupInts p1 p2 i1 i2 hu ⟨.bl (HT.lexLt ns ms),H,I,rfl,q⟩
noncomputable def zCg(K:W.Frag):R2:=fun x y H Q=>∃a b xs ys,x=.ref a/\y=.ref b/\SqT K H a xs/\SqT K H b ys/\xs≠[]/\xs.length+ys.length<=sizeLine/\
 (ys=[]->Q (.ref a) H)/\(ys≠[]->∀p,H p=none->Q (.ref p) (upd H p (.tup (xs++ys))))
theorem Vals.nil_iff{xs:List V}{us:List Value}(r:Vals xs us):us=[]↔xs=[]:=by
 cases r with
 | nil=>simp
 | cons _ _=>simp
theorem z9W:OpR X (binaryOp .Add) (zCg X.K):=by
 intro pins s σ H x y v u Q I rx ry h;obtain⟨a,b,xs,ys,rfl,rfl,ha,hb,hx,hz,q1,q2⟩:=h;cases rx;cases ry;obtain⟨its,r1,p1,_⟩:=I.tuple ha;obtain⟨its2,r2,p2,_⟩:=I.tuple hb;refine HT.cat_tup p1 p2 (fun z=>hx (r1.nil_iff.mp z)) (fun z=>⟨.ref a,H,I,rfl,q1 (r2.nil_iff.mp z)⟩) (fun z=>?_) (by rw[<-r1.length,<-r2.length];exact hz);refine⟨.ref s.heap.objs.size,_,I.laid (t':=s.toks) (o:=.tup (xs++ys)) (fun b ob q=>Heap.get?_push_of_some _ q) (Nat.le_refl _) ?_,rfl,q2 (fun w=>z (r2.nil_iff.mpr w)) _ (I.hok.fresh (Nat.le_refl _))⟩;exact⟨⟨by rw[List.length_append];exact hz,_,Heap.get?_push_size _ rfl,rfl⟩,_,r1.append r2,IsTup.new _ _⟩
end
noncomputable def ixN(n:Nat)(i:Int):Option Nat:=if 0<=i then(if i<n then some i.toNat else none)else if -(n:Int)<=i then some (i+n).toNat else none
noncomputable def atI{α:Type}(xs:List α)(i:Int):Option α:=(ixN xs.length i).bind fun j=>xs[j]?
theorem z4j{n:Nat}{i:Int}{j:Nat}(h:ixN n i=some j):seqIndex? i n=some j/\j<n /\ -(n:Int)<=i/\i<n:=by
 unfold ixN at h;by_cases h0:0<=i
 ·rw[if_pos h0]at h;by_cases h1:i<n
  ·rw[if_pos h1]at h;have e:i.toNat=j:=Option.some.inj h;exact⟨by rw[seqIndex_of h0 h1,e],by omega,by omega,h1⟩
  ·rw[if_neg h1]at h;cases h
 ·rw[if_neg h0]at h;by_cases h1 : -(n:Int)<=i
  ·rw[if_pos h1]at h;have e:(i+n).toNat=j:=Option.some.inj h;exact⟨by rw[seqIndex_neg (by omega) h1,e],by omega,h1,by omega⟩
  ·rw[if_neg h1]at h;cases h
theorem z4l{α:Type}{xs:List α}{i:Int}{v:α}(h:atI xs i=some v):∃j,seqIndex? i xs.length=some j/\xs[j]?=some v/\j<xs.length /\ -(xs.length:Int)<=i/\i<xs.length:=by
 unfold atI at h;cases e:ixN xs.length i with
 | none=>rw[e]at h;cases h
 | some j=>
  rw[e]at h;obtain⟨h1,h2,h3,h4⟩:=z4j e;exact⟨j,h1,h,h2,h3,h4⟩
theorem z1A{α:Type}{xs:List α}{j:Nat}{v:α}(h:xs[j]?=some v):atI xs (j:Int)=some v:=by
 have hj:j<xs.length:=(List.getElem?_eq_some_iff.mp h).1;have e:ixN xs.length (j:Int)=some j:=by
  unfold ixN;rw[if_pos (by omega),if_pos (by omega)];simp
 unfold atI;rw[e];exact h
def z4r(b:Expr):Prop:=∀o i,subscripted b false o i=operate [o,i] (getItem o i)
def IxR(X:Cx)(r:R2):Prop:=
 ∀(value slice:Expr) (pins:List (Addr×Obj)) (s:Shared) (σ:St) (H:Hp) (x y:V) (v u:Value) (Q:VK),Inv X pins σ H s->RelV x v->RelV y u->r x y H Q->
  subscripted slice false v u=operate [v,u] (getItem v u)->wpAny (model X.prog X.w) X.A (subscriptTail value slice v u) (EP X pins σ Q) X.xe s
def MtR(X:Cx)(id:String)(r:V->List V->Hp->VK->Prop):Prop:=
 ∀(pins:List (Addr×Obj)) (s:Shared) (σ:St) (H:Hp) (x:V) (xs:List V) (v:Value) (us:List Value) (Q:VK),Inv X pins σ H s->RelV x v->Vals xs us->r x xs H Q->
  wpAny (model X.prog X.w) X.A (call (.builtin id) (v::us)) (EP X pins σ Q) X.xe s
section
variable{X:Cx}{a b:Expr}{ta tb:TE}{pos:Pos}
theorem IxR.or{r r':R2}(h:IxR X r)(h':IxR X r'):IxR X (fun x y H Q=>r x y H Q\/r' x y H Q):=by
 intro value slice pins s σ H x y v u Q I rx ry q hs;rcases q with q | q
 ·exact h value slice pins s σ H x y v u Q I rx ry q hs
 ·exact h' value slice pins s σ H x y v u Q I rx ry q hs
theorem zAH{r:R2}(hr:IxR X r)(ha:PE X a ta)(hb:PE X b tb)(hs:z4r b):PE X (.Subscript a b pos) (tOp r ta tb):=by
 intro pins s σ H Q I h;exact Subscript_ (binT ha hb I h fun v u s2 x y H2 I2 rx ry q=>hr a b pins s2 σ H2 x y v u Q I2 rx ry q (hs _ _))
noncomputable def rIxL(K:W.Frag):R2:=fun x y H Q=>∃p xs i v,x=.ref p/\y=.int i/\SqL K H p xs/\atI xs i=some v/\Q v H
noncomputable def rIxT(K:W.Frag):R2:=fun x y H Q=>∃p xs i v,x=.ref p/\y=.int i/\SqT K H p xs/\atI xs i=some v/\Q v H
theorem ix_list:IxR X (rIxL X.K):=by
 intro value slice pins s σ H x y v u Q I rx ry h hs;obtain⟨p,xs,i,z,rfl,rfl,hq,he,q⟩:=h;cases rx;obtain⟨t,rfl⟩:=ry;obtain⟨its,r,pl,hz⟩:=I.list hq;obtain⟨j,h1,h2,h3,h4,h5⟩:=z4l he;obtain⟨w,ew,rw'⟩:=r.get h2;have hl:=r.length;have hn:=z0V;have fin:EP X pins σ Q w s:=⟨z,H,I,rw',q⟩;by_cases h0:0<=i
 ·have hj:i.toNat=j:=by
   rw[seqIndex_of h0 h5]at h1;exact Option.some.inj h1
  exact item_listR pl.isList h0 (by omega) (by rw[hj];simpa using ew) fin hs
 ·have hj:(i+(its.toArray.size:Int)).toNat=j:=by
   rw[seqIndex_neg (by omega) h4]at h1;rw[List.size_toArray,<-hl];exact Option.some.inj h1
  exact subscriptTail_builtinR (x:=w) pl.isList.typeIs slot_list_getitem.lookup
   (wpAny_getItem_list_neg (Q:=fun r s'=>r=w/\EP X pins σ Q r s') pl.isList (by omega) (by rw[List.size_toArray]<;>omega) (by omega) (by rw[hj];simpa using ew) ⟨rfl,fin⟩) hs
theorem ix_tup:IxR X (rIxT X.K):=by
 intro value slice pins s σ H x y v u Q I rx ry h hs;obtain⟨p,xs,i,z,rfl,rfl,hq,he,q⟩:=h;cases rx;obtain⟨t,rfl⟩:=ry;obtain⟨its,r,pl,hz⟩:=I.tuple hq;obtain⟨j,h1,h2,h3,h4,h5⟩:=z4l he;obtain⟨w,ew,rw'⟩:=r.get h2;have hl:=r.length;have hn:=z0V;have fin:EP X pins σ Q w s:=⟨z,H,I,rw',q⟩;exact subscriptTail_builtinR (x:=w) pl.typeIs slot_tuple_getitem.lookup
  (getItem_tuple (j:=j) (Q:=fun r s'=>r=w/\EP X pins σ Q r s') pl (by omega) (by omega) (by rw[List.size_toArray,<-hl];exact h1) (by simpa using ew) ⟨rfl,fin⟩) hs
theorem z4U(its:List Value)(n j:Nat)(u:Value):Obj.mapSeq (·.setIfInBounds j u) { cls:=.type "list",data:=.seq its.toArray n }={ cls:=.type "list",data:=.seq (its.set j u).toArray n }:=by
 simp[Obj.mapSeq]
theorem Inv.lst{pins:List (Addr×Obj)}{σ:St}{H:Hp}{s:Shared}{p:Addr}{xs:List V}(I:Inv X pins σ H s)(h:H p=some (.lst xs)):
  ∃(its:List Value) (n:Nat),Vals xs its/\s.heap.get? p=some { cls:=.type "list",data:=.seq its.toArray n }/\xs.length<=sizeLine:=by
 obtain⟨z,its,n,r,e⟩:=I.hok p _ h;exact⟨its,n,r,e,z⟩
theorem Inv.lstUpd{pins:List (Addr×Obj)}{σ:St}{H:Hp}{s:Shared}{p:Addr}{xs ys:List V}{its its':List Value}{n n':Nat}{f:Obj->Obj}(I:Inv X pins σ H s)(h:H p=some (.lst xs))
  (ho:s.heap.get? p=some { cls:=.type "list",data:=.seq its.toArray n }) (hf:f { cls:=.type "list",data:=.seq its.toArray n }={ cls:=.type "list",data:=.seq its'.toArray n' }) (r:Vals ys its') (hz:ys.length<=sizeLine) (t:Nat) :
  Inv X pins σ (upd H p (.lst ys)) { s with heap:=s.heap.update p f,toks:=t }:=by
 have e:(s.heap.update p f).get? p=some { cls:=.type "list",data:=.seq its'.toArray n' }:=by
  rw[Heap.get?_update_self f ho (by rw[hf]<;>rfl),hf]
 refine I.write (x:=p) (e:=p) (by rw[h];trivial) (.inl rfl) (fun b u hb q=>(Heap.get?_update_other _ _ (Ne.symm hb)).trans q) ⟨_,e⟩ ?_;exact⟨hz,its',n',r,e⟩
noncomputable def zAV:V->V->V->Hp->(Hp->Prop)->Prop:=fun o i v H Q=>∃p xs k j,o=.ref p/\i=.int k/\H p=some (.lst xs)/\ixN xs.length k=some j/\Q (upd H p (.lst (xs.set j v)))
theorem z7E:PSet X zAV:=by
 intro pins s σ H o i v ov iv u Q I ro ri rv h;obtain⟨p,xs,k,j,rfl,rfl,hp,hj,q⟩:=h;cases ro;obtain⟨t,rfl⟩:=ri;obtain⟨its,n,r,ho,hz⟩:=I.lst hp;obtain⟨h1,h2,h3,h4⟩:=z4j hj;have hl:=r.length;have hn:=z0V;have I':Inv X pins σ (upd H p (.lst (xs.set j v))) { s with heap:=s.heap.update p (Obj.mapSeq (·.setIfInBounds j u)) }:=
  I.lstUpd hp ho (z4U its n j u) (r.set rv j) (by rw[List.length_set];exact hz) s.toks
 by_cases h0:0<=k
 ·have hk:k.toNat=j:=by
   rw[seqIndex_of h0 h4]at h1;exact Option.some.inj h1
  exact W.ki_setAt ho h0 (by omega) (by rw[List.size_toArray,<-hl];exact h4) (by rw[hk];exact⟨_,I',q⟩)
 ·have hk:(k+(its.toArray.size:Int)).toNat=j:=by
   rw[seqIndex_neg (by omega) h3]at h1;rw[List.size_toArray,<-hl];exact Option.some.inj h1
  exact W.ki_setBack ho (by omega) (by rw[List.size_toArray,<-hl];exact h3) (by omega) (by rw[hk];exact⟨_,I',q⟩)
theorem z22(lo hi:Option Int)(n:Nat):(sliceBounds lo hi none n).1=((HT.sIx n 0 lo:Nat):Int)/\(sliceBounds lo hi none n).2.1=((HT.sIx n n hi:Nat):Int)/\(sliceBounds lo hi none n).2.2=1:=by
 refine⟨?_,?_,rfl⟩
 ·cases lo with
  | none=>simp[sliceBounds,HT.sIx]
  | some i=>
   simp only[sliceBounds,HT.sIx,Option.getD_none,show(1:Int)>0 by decide,if_true];by_cases h:i<0
   ·simp only[h,if_true]<;>omega
   ·simp only[h,if_false]<;>omega
 ·cases hi with
  | none=>simp[sliceBounds,HT.sIx]
  | some i=>
   simp only[sliceBounds,HT.sIx,Option.getD_none,show(1:Int)>0 by decide,if_true];by_cases h:i<0
   ·simp only[h,if_true]<;>omega
   ·simp only[h,if_false]<;>omega
theorem z0q(its:List Value)(lo hi:Option Int):slicePick its.toArray lo hi none=((its.drop (HT.sIx its.length 0 lo)).take (HT.sIx its.length its.length hi - HT.sIx its.length 0 lo)).toArray:=by
 obtain⟨h1,h2,h3⟩:=z22 lo hi its.toArray.size;unfold slicePick;rw[h1,h2,h3];simp only[sliceRange_one,pick_run,List.size_toArray]<;>rfl
noncomputable def rSlL(K:W.Frag):V->Option Int->Option Int->Hp->VK->Prop:=fun x lo hi H Q=>∃a xs,x=.ref a/\SqL K H a xs/\∀p,H p=none->Q (.ref p) (upd H p (.lst (cutV xs lo hi)))
theorem sl_list:SlR X (rSlL X.K):=by
 intro pins s σ H x v vl vu lo hi sl Q I rx hs pl pu h;obtain⟨a,xs,rfl,hx,q⟩:=h;cases rx;obtain⟨its,r,ht,hz⟩:=I.list hx;have hlen:=r.length;refine⟨"list",_,slot_list_getitem.lookup,ht.isList.typeIs,?_⟩;refine wpAny_getItem_list_slice ht.isList hs pl pu .none (by simp) ?_ (by rw[List.size_toArray]<;>omega);rw[z0q,<-hlen];refine⟨.ref s.heap.objs.size,_,I.laid (t':=s.toks) (o:=.lst (cutV xs lo hi)) (fun b ob q=>Heap.get?_push_of_some _ q) (Nat.le_refl _) ?_,rfl,q _ (I.hok.fresh (Nat.le_refl _))⟩;exact⟨Nat.le_trans (uc xs lo hi) hz,_,0,(r.drop (HT.sIx xs.length 0 lo)).take (HT.sIx xs.length xs.length hi - HT.sIx xs.length 0 lo),Heap.get?_push_size _ rfl⟩
theorem call_len_seq:CallR X (.builtin "len") (fun xs H Q=>∃p ys,xs=[.ref p]/\(SqL X.K H p ys\/SqT X.K H p ys)/\Q (.int ys.length) H):=by
 intro pins s σ H xs us Q I r h;obtain⟨p,ys,rfl,hq,q⟩:=h;obtain⟨u,rfl,rx⟩:=xf r;cases rx;have hn:=z0V;rcases hq with hq | hq
 ·obtain⟨its,r',pl,hz⟩:=I.list hq;have hlen:=r'.length;exact Calls.call_len_list pl.isList (by simp only[List.size_toArray]<;>omega) ⟨.int ys.length,H,I.tok _,⟨s.toks+1,by rw[List.size_toArray,hlen]⟩,q⟩
 ·obtain⟨its,r',pl,hz⟩:=I.tuple hq;have hlen:=r'.length;exact len_tuple pl (by simp only[List.size_toArray]<;>omega) ⟨.int ys.length,H,I.tok _,⟨s.toks+1,by rw[List.size_toArray,hlen]⟩,q⟩
theorem z1z:CallR X (.builtin "len") (fun xs H Q=>∃z,xs=[.str z]/\z.length<=sizeLine/\Q (.int z.length) H):=by
 intro pins s σ H xs us Q I r h;obtain⟨z,rfl,hz,q⟩:=h;obtain⟨u,rfl,t,rfl⟩:=xf r;have hn:=z0V;exact len_str (by omega) ⟨.int z.length,H,I.tok _,⟨_,rfl⟩,q⟩
theorem CallR.or{f:Value}{r r':List V->Hp->VK->Prop}(h:CallR X f r)(h':CallR X f r'):CallR X f (fun xs H Q=>r xs H Q\/r' xs H Q):=by
 intro pins s σ H xs us Q I rs q;rcases q with q | q
 ·exact h pins s σ H xs us Q I rs q
 ·exact h' pins s σ H xs us Q I rs q
theorem call_tuple_of:CallR X (.type "tuple") (fun xs H Q=>∃p ys,xs=[.ref p]/\((SqL X.K H p ys/\∀l,H l=none->Q (.ref l) (upd H l (.tup ys)))\/(SqT X.K H p ys/\Q (.ref p) H))):=by
 intro pins s σ H xs us Q I r h;obtain⟨p,ys,rfl,h⟩:=h;obtain⟨u,rfl,rx⟩:=xf r;cases rx;rcases h with ⟨hq,q⟩ | ⟨hq,q⟩
 ·obtain⟨its,r',pl,hz⟩:=I.list hq;have hlen:=r'.length;refine call_tuple_list pl.isList (fun h' kp=>?_) (by simp only[List.size_toArray]<;>omega);have I1:Inv X pins σ H { s with heap:=h' }:=I.kept (t':=s.toks) kp;have I2:Inv X pins σ (upd H h'.objs.size (.tup ys)) { s with heap:=h'.push { cls:=.type "tuple",data:=.seq its.toArray } }:=
   I1.laid (t':=s.toks) (fun b o e=>Heap.get?_push_of_some _ e) (Nat.le_refl _) (show ObjOk X.prog X.w _ _ _ (.tup ys) from⟨⟨hz,_,Heap.get?_push_size _ rfl,rfl⟩,its,r',IsTup.new _ _⟩)
  exact⟨.ref h'.objs.size,_,I2,rfl,q _ (I1.hok.fresh (Nat.le_refl _))⟩
 ·obtain⟨its,r',pl,hz⟩:=I.tuple hq;exact call_tuple_same pl ⟨.ref p,H,I,rfl,q⟩
def tyV(K:W.Frag)(T:String)(x:V)(H:Hp):Prop:=match x with
 | .str _=>T="str"
 | .int _=>T="int"
 | .ref p=>(T="list"/\∃xs,SqL K H p xs)\/(T="tuple"/\((∃o,K.lookup p=some o/\o.cls=.type "tuple"/\o.dict=none)\/∃xs,H p=some (.tup xs)))\/
   (T="dict"/\((∃kvs,H p=some (.dK kvs))\/∃kvs,H p=some (.dT kvs)))\/(T="set"/\∃S n,H p=some (.set S n))
 | _=>False
theorem zBM{pins:List (Addr×Obj)}{σ:St}{H:Hp}{s:Shared}{T:String}{x:V}{v:Value}(I:Inv X pins σ H s)(r:RelV x v)(ty:tyV X.K T x H):
  s.TypeIs v T/\∀a,v=.ref a->∃ob,s.heap.get? a=some ob/\ob.dict=none:=by
 cases x with
 | str z=>
  obtain⟨t,rfl⟩:=r;cases(show T="str" from ty);exact⟨typeIs_str s z t,fun _ e=>nomatch e⟩
 | int i=>
  obtain⟨t,rfl⟩:=r;cases(show T="int" from ty);exact⟨typeIs_int s i t,fun _ e=>nomatch e⟩
 | ref p=>
  cases r;rcases ty with ⟨rfl,xs,hq⟩ | ⟨rfl,⟨o,hk,hc,hd⟩ | ⟨xs,hq⟩⟩ | ⟨rfl,hk⟩ | ⟨rfl,S,n,hk⟩
  ·obtain⟨its,_,pl,_⟩:=I.list hq;refine⟨pl.isList.typeIs,fun a e=>?_⟩;cases e;obtain⟨o,n,e,c,hd,_⟩:=pl;exact⟨o,e,hd⟩
  ·refine⟨⟨o,I.kIn p o hk,hc⟩,fun a e=>?_⟩;cases e;exact⟨o,I.kIn _ o hk,hd⟩
  ·obtain⟨⟨_,o2,e2,c2⟩,its,r,ob,e,c,_⟩:=(show ObjOk X.prog X.w H s.heap p (.tup xs) from I.hok p _ hq);refine⟨⟨ob,e,c⟩,fun a e3=>?_⟩;cases e3;exact⟨o2,e2,c2⟩
  ·have z:∃o,s.heap.get? p=some o/\o.ExactDict:=by
    rcases hk with ⟨kvs,hk⟩ | ⟨kvs,hk⟩
    ·obtain⟨_,_,_,_,o,_,_,e,ex,_⟩:=I.hok p _ hk;exact⟨o,e,ex⟩
    ·obtain⟨_,_,_,_,o,_,_,e,ex,_⟩:=I.hok p _ hk;exact⟨o,e,ex⟩
   obtain⟨o,e,ex⟩:=z;refine⟨⟨o,e,ex.1⟩,fun a e2=>?_⟩;cases e2;exact⟨o,e,ex.2.1⟩
  ·obtain⟨o,_,_,_,e,ex,_⟩:=I.hok p _ hk;refine⟨⟨o,e,ex.1⟩,fun a e2=>?_⟩;cases e2;exact⟨o,e,ex.2.1⟩
 | _=>exact False.elim ty
noncomputable def tBM(K:W.Frag)(T:String)(r:V->List V->Hp->VK->Prop)(to:TE)(t:TA):TE:=fun σ H Q=>to σ H fun x H1=>tyV K T x H1/\t σ H1 fun xs H2=>r x xs H2 Q
variable{o e:Expr}{es:List Expr}{to:TE}{t:TA}{name:Str}{apos cpos:Pos}{T id:String}{r:V->List V->Hp->VK->Prop}
theorem z4H(pa:PlainAttrs T)(slot:Slot T name id)(hty:typeOf (.builtin id)=pure (.type "method_descriptor"))(hm:MtR X id r)(ho:PE X o to)(ha:PA X (e::es) t)
  (hbase:attributeBase o name X.env (eval o X.env)=eval o X.env:=by rfl)
  (hfew:((backTo cpos (starEach (e::es) X.env)).all (fun x=>!x.1) && (backToKw cpos (keywordEach [] X.env)).all (fun x=>x.1.isSome)
   && decide ((e::es).length+([]:List Keyword).length+(if ([]:List Keyword).isEmpty then 0 else 1)<30))=true:=by rfl)
  (hline:(apos.endLine == cpos.line)=true:=by rfl) (hs:starEach (e::es) X.env=(false,eval e X.env)::starEach es X.env:=by rfl) (hplain:(backTo cpos (starEach es X.env)).any (·.1)=false:=by rfl) :
  PE X (.Call (.Attribute o name apos) (e::es) [] cpos) (tBM X.K T r to t):=by
 intro pins s σ H Q I h;refine wpAny_Call_method_late hbase hfew hline rfl (thn (ho pins s σ H _ I h) fun v s1 ⟨x,H1,I1,r1,ty,q1⟩=>?_);obtain⟨h1,h2⟩:=zBM I1 r1 ty;refine⟨T,id,pa,slot,hty,h1,h2,?_⟩;have hA:=ha cpos pins s1 σ H1 _ I1 q1;rw[hs]at hA |-;refine Calls.callWith_builtin (by show(false || (backTo cpos (starEach es X.env)).any (·.1))=false;rw[hplain]<;>rfl) (Calls.evalArgs_plain ?_);exact thn hA fun us s2 ⟨vs,H2,I2,r2,q2⟩=>hm pins s2 σ H2 x vs v us Q I2 r1 r2 q2
end
def MtM(X:Cx)(id:String)(r:V->List V->Hp->VK->Prop):Prop:=
 ∀(pins:List (Addr×Obj)) (s:Shared) (σ:St) (H:Hp) (x:V) (xs:List V) (v:Value) (us:List Value) (Q:VK),Inv X pins σ H s->RelV x v->Vals xs us->r x xs H Q->
  wpAny (model X.prog X.w) X.A (call (.builtin id) (v::us)) (EP X pins σ Q) X.xe s
theorem Vals.one:∀{x:V} {us:List Value},Vals [x] us->∃u,us=[u]/\RelV x u
 | _,_,.cons r .nil=>⟨_,rfl,r⟩
theorem Vals.two{x y:V}{us:List Value}(h:Vals [x,y] us):∃u v,us=[u,v]/\RelV x u/\RelV y v:=by
 cases h with
 | cons r t=>cases t with
  | cons q t=>cases t;exact⟨_,_,rfl,r,q⟩
theorem Vals.eraseIdx:∀{xs:List V} {us:List Value} (i:Nat),Vals xs us->Vals (xs.eraseIdx i) (us.eraseIdx i)
 | _,_,_,.nil=>.nil
 | _,_,0,.cons _ t=>t
 | _,_,i+1,.cons r t=>.cons r (Vals.eraseIdx i t)
theorem Vals.rep{xs:List V}{us:List Value}(h:Vals xs us):∀k:Nat,Vals (List.replicate k xs).flatten (List.replicate k us).flatten
 | 0=>.nil
 | k+1=>by
  rw[List.replicate_succ,List.replicate_succ,List.flatten_cons,List.flatten_cons];exact Vals.append h (Vals.rep h k)
theorem z1r{α:Type}:∀(l:List α) (i:Nat),(l.eraseIdx i).length<=l.length
 | [],_=>Nat.le_refl _
 | _::_,0=>Nat.le_succ _
 | _::r,i+1=>Nat.succ_le_succ (z1r r i)
theorem uV(its:List Value):∀(k:Nat) (acc:List Value),
  List.foldl (fun x1 x2=>x1++x2) acc.toArray (List.replicate k its.toArray)=(acc++(List.replicate k its).flatten).toArray
 | 0,acc=>by simp
 | k+1,acc=>by
  have e:acc.toArray++its.toArray=(acc++its).toArray:=by simp
  have e2:(acc++its)++(List.replicate k its).flatten=acc++(List.replicate (k+1) its).flatten:=by
   rw[List.replicate_succ,List.flatten_cons,List.append_assoc]
  rw[<-e2,<-uV its k (acc++its),<-e,List.replicate_succ,List.foldl_cons]
section
variable{X:Cx}{pins:List (Addr×Obj)}{σ:St}{H:Hp}{s:Shared}{l b:Addr}{xs ys zs:List V}
theorem Inv.lset{its its':List Value}{n:Nat}{f:Array Value->Array Value}{t':Nat}(I:Inv X pins σ H s)(hH:H l=some (.lst xs))
  (e:s.heap.get? l=some { cls:=.type "list",data:=.seq its.toArray n }) (hf:f its.toArray=its'.toArray) (hv:Vals ys its') (hz:ys.length<=sizeLine) :
  Inv X pins σ (upd H l (.lst ys)) { s with heap:=s.heap.update l (Obj.mapSeq f),toks:=t' }:=by
 have q:=PySem.IsL.update e f;rw[hf]at q;refine I.write (x:=l) (e:=l) (by rw[hH];exact trivial) (.inl rfl) (fun b' u hb hu=>(Heap.get?_update_other s.heap (Obj.mapSeq f) (Ne.symm hb)).trans hu) ⟨_,q⟩ ?_;exact⟨hz,its',_,hv,q⟩
theorem Inv.lnew{its:List Value}{t':Nat}(I:Inv X pins σ H s)(hv:Vals ys its)(hz:ys.length<=sizeLine):
  Inv X pins σ (upd H s.heap.objs.size (.lst ys)) { s with heap:=s.heap.push { cls:=.type "list",data:=.seq its.toArray },toks:=t' }:=
 I.laid (fun _ _ q=>Heap.get?_push_of_some _ q) (Nat.le_refl _) ⟨hz,its,0,hv,Heap.get?_push_size _ rfl⟩
theorem Inv.fresh(I:Inv X pins σ H s):H s.heap.objs.size=none:=I.hok.fresh (Nat.le_refl _)
theorem Inv.lstM(I:Inv X pins σ H s)(hH:H l=some (.lst xs)):xs.length<=sizeLine/\∃(its:List Value) (n:Nat),Vals xs its/\xs.length=its.length/\s.heap.get? l=some { cls:=.type "list",data:=.seq its.toArray n }:=by
 obtain⟨z,its,n,r,e⟩:=I.hok l _ hH;exact⟨z,its,n,r,r.length,e⟩
theorem z3x{n:Nat}(h:n<=sizeLine):Builtin.List.listTooLong n=false:=by
 unfold Builtin.List.listTooLong;exact decide_eq_false (by omega)
end
section
variable{X:Cx}
noncomputable def z2q:V->List V->Hp->VK->Prop:=fun x vs H Q=>∃l xs y,x=.ref l/\vs=[y]/\H l=some (.lst xs)/\xs.length<sizeLine/\Q .non (upd H l (.lst (xs++[y])))
theorem wc:MtM X "list.append" z2q:=by
 intro pins s σ H x vs v us Q I rx rv h;obtain⟨l,xs,y,rfl,rfl,hH,hz,q⟩:=h;cases rx;obtain⟨u,rfl,ru⟩:=rv.one;obtain⟨z,its,n,r,hl,e⟩:=I.lstM hH;refine call_meets F.slot_list_append ⟨_,e,rfl⟩ F.entry_list_append (F.args_list_append_2 _ _) (PySem.list_append l its.toArray n u (by rw[List.size_toArray];omega)) ⟨e,?_⟩;refine⟨.non,_,I.lset (its':=its++[u]) hH e (by simp) (r.append (.cons ru .nil)) ?_,rfl,q⟩;rw[List.length_append,List.length_singleton];omega
noncomputable def z54:V->List V->Hp->VK->Prop:=fun x vs H Q=>∃l b xs zs,x=.ref l/\vs=[.ref b]/\H l=some (.lst xs)/\H b=some (.lst zs)/\xs.length+zs.length<=sizeLine/\Q .non (upd H l (.lst (xs++zs)))
theorem z4y:MtM X "list.extend" z54:=by
 intro pins s σ H x vs v us Q I rx rv h;obtain⟨l,b,xs,zs,rfl,rfl,hH,hB,hz,q⟩:=h;cases rx;obtain⟨u,rfl,ru⟩:=rv.one;cases ru;obtain⟨z,its,n,r,hl,e⟩:=I.lstM hH;obtain⟨z2,its2,n2,r2,hl2,e2⟩:=I.lstM hB;have hsz:its.toArray.size+its2.toArray.size<=sizeLine:=by rw[List.size_toArray,List.size_toArray];omega
 have hlong:¬(!its.toArray.isEmpty && Builtin.List.listTooLong (its.toArray.size+its2.toArray.size))=true:=by
  rw[z3x hsz,Bool.and_false];exact Bool.false_ne_true
 refine call_meets F.slot_list_extend ⟨_,e,rfl⟩ F.entry_list_extend (F.args_list_extend_2 _ _)
  (AutoSeq1.list_extend_list_list_0 l its.toArray n b its2.toArray n2 hlong (by rw[List.size_toArray];omega) (by omega)) ⟨e,e2,?_⟩
 refine⟨.non,_,I.lset (its':=its++its2) hH e (by simp) (r.append r2) ?_,rfl,q⟩;rw[List.length_append];omega
noncomputable def z8p:V->List V->Hp->VK->Prop:=fun x vs H Q=>∃l xs i k y,x=.ref l/\vs=[.int i]/\H l=some (.lst xs) /\ -(2 ^ 63)<=i/\i<2 ^ 63/\seqIndex? i xs.length=some k/\xs[k]?=some y/\Q y (upd H l (.lst (xs.eraseIdx k)))
theorem z79:MtM X "list.pop" z8p:=by
 intro pins s σ H x vs v us Q I rx rv h;obtain⟨l,xs,i,k,y,rfl,rfl,hH,h1,h2,hk,hy,q⟩:=h;cases rx;obtain⟨u,rfl,ru⟩:=rv.one;obtain⟨t,rfl⟩:=ru;obtain⟨z,its,n,r,hl,e⟩:=I.lstM hH;obtain⟨w,hw,rw'⟩:=r.get hy;refine call_meets F.slot_list_pop ⟨_,e,rfl⟩ F.entry_list_pop (F.args_list_pop_2 _ _)
  (MeetsSeq.list_pop_at l its.toArray n i t k w (fitsIndex_both h1 h2) (by rw[List.size_toArray,<-hl];exact hk) (by rw[<-Array.getElem?_toList];exact hw) (by rw[List.size_toArray];omega)) ⟨e,?_⟩
 refine⟨y,_,I.lset (its':=its.eraseIdx k) hH e ?_ (r.eraseIdx k) ?_,rw',q⟩
 ·show its.toArray.eraseIdxIfInBounds k=(its.eraseIdx k).toArray;rw[List.eraseIdxIfInBounds_toArray]
 ·have:=z1r xs k;omega
noncomputable def rCat:R2:=fun x y H Q=>∃l b xs zs,x=.ref l/\y=.ref b/\H l=some (.lst xs)/\H b=some (.lst zs)/\xs.length+zs.length<=sizeLine/\∀p,H p=none->Q (.ref p) (upd H p (.lst (xs++zs)))
theorem op_cat:OpR X (binaryOp .Add) rCat:=by
 intro pins s σ H x y v u Q I rx ry h;obtain⟨l,b,xs,zs,rfl,rfl,hH,hB,hz,q⟩:=h;cases rx;cases ry;obtain⟨z,its,n,r,hl,e⟩:=I.lstM hH;obtain⟨z2,its2,n2,r2,hl2,e2⟩:=I.lstM hB;refine PySem.P.add_list e e2 ?_ (by rw[List.size_toArray,List.size_toArray];omega);have ea:its.toArray++its2.toArray=(its++its2).toArray:=by simp
 rw[ea];exact⟨.ref _,_,I.lnew (t':=s.toks) (r.append r2) (by rw[List.length_append];omega),rfl,q _ I.fresh⟩
noncomputable def rRep:R2:=fun x y H Q=>∃l k xs,x=.ref l/\y=.int k/\H l=some (.lst xs) /\ -(2 ^ 63)<=k/\k<2 ^ 63/\xs.length*k.toNat<=sizeLine/\
 ∀p,H p=none->Q (.ref p) (upd H p (.lst (List.replicate k.toNat xs).flatten))
theorem z5g{α:Type}(xs:List α)(k:Nat):(List.replicate k xs).flatten.length=k*xs.length:=by
 induction k with
 | zero=>simp
 | succ k ih=>rw[List.replicate_succ,List.flatten_cons,List.length_append,ih,Nat.succ_mul,Nat.add_comm]
theorem zC0:OpR X (binaryOp .Mult) rRep:=by
 intro pins s σ H x y v u Q I rx ry h;obtain⟨l,k,xs,rfl,rfl,hH,h1,h2,hz,q⟩:=h;cases rx;obtain⟨t,rfl⟩:=ry;obtain⟨z,its,n,r,hl,e⟩:=I.lstM hH;have hlen:its.toArray.size*k.toNat<=sizeLine:=by rw[List.size_toArray,<-hl];exact hz
 have hcap:¬its.toArray.size*k.toNat>(2 ^ 63 - 1) / 8:=by
  have:(sizeLine:Nat)<=(2 ^ 63 - 1) / 8:=by decide
  omega
 have hfit:¬(!Builtin.List.listFitsIndex k)=true:=by
  rw[fitsIndex_both h1 h2];exact Bool.false_ne_true
 have hlong:¬Builtin.List.listTooLong (its.toArray.size*k.toNat)=true:=by
  rw[z3x hlen];exact Bool.false_ne_true
 have hnew:List.foldl (fun x1 x2=>x1++x2) #[] (List.replicate (if its.toArray.isEmpty=true then 0 else k.toNat) its.toArray)=(List.replicate k.toNat its).flatten.toArray:=by
  have f0:∀m:Nat,List.foldl (fun x1 x2=>x1++x2) #[] (List.replicate m its.toArray)=(List.replicate m its).flatten.toArray:=fun m=>by
   have:=uV its m [];rw[List.nil_append]at this;exact this
  rw[f0];cases its with
  | nil=>simp
  | cons a r'=>rw[if_neg (by simp)]
 refine wpAny_binaryOp_repeat_ref (T:="list") (U:="int") (by decide) ⟨_,e,rfl⟩ (fun s'=>typeIs_int s' k t) noFill_list_mul F.fills_int_mul F.slot_int_rmul repeat_list F.slot_int_index.lookup
  (call_meets F.slot_int_rmul (typeIs_int s k t) F.entry_int_rmul (F.args_int_rmul_2 _ _) (int___rmul___int_list k t l its.toArray n)
   ⟨e,rfl,⟨_,e,rfl⟩,call_meets F.slot_list_mul ⟨_,e,rfl⟩ F.entry_list_mul (F.args_list_mul_2 _ _) (AutoListH.list___mul___list_int_3 l its.toArray n k t hfit hcap hlong) ⟨e,?_⟩⟩)
 rw[hnew];exact⟨.ref _,_,I.lnew (t':=s.toks) (r.rep k.toNat) (by rw[z5g,Nat.mul_comm];exact hz),rfl,q _ I.fresh⟩
end
section
variable{prog:Program}{w:World}{A:Around}{E:Value->Shared->Prop}{s:Shared}
set_option maxRecDepth 100000 in
end
section
variable{X:Cx}
end
section
variable{κ:Type}[DecidableEq κ]
noncomputable def valV(kvs:List (κ×V))(k:κ):Option V:=(kvs.find? fun kv=>decide (kv.1=k)).map (·.2)
noncomputable def putK(kvs:List (κ×V))(k:κ)(v:V):List (κ×V):=
 if (kvs.any fun kv=>decide (kv.1=k))=true then kvs.map (fun kv=>if kv.1=k then(kv.1,v)else kv)else kvs++[(k,v)]
theorem uP{p:κ×V}{r:List (κ×V)}{k:κ}(e:p.1=k):valV (p::r) k=some p.2:=by simp[valV,List.find?_cons,e]
theorem uF{p:κ×V}{r:List (κ×V)}{k:κ}(e:¬p.1=k):valV (p::r) k=valV r k:=by simp[valV,List.find?_cons,e]
theorem z3q(k:κ):∀kvs:List (κ×V),(kvs.any fun kv=>decide (kv.1=k))=(valV kvs k).isSome
 | []=>rfl
 | p::r=>by
  rw[List.any_cons];by_cases e:p.1=k
  ·simp only[uP e,decide_eq_true e,Bool.true_or,Option.isSome_some]
  ·rw[uF e,decide_eq_false e,Bool.false_or];exact z3q k r
theorem xO(kvs:List (κ×V))(k:κ)(v:V):(putK kvs k v).length<=kvs.length+1:=by
 unfold putK;split
 ·rw[List.length_map];omega
 ·rw[List.length_append,List.length_cons,List.length_nil];omega
theorem RelO.isSome_eq{o:Option V}{u:Option Value}(r:RelO o u):o.isSome=u.isSome:=by
 cases o with
 | none=>cases u with
  | none=>rfl
  | some _=>exact(show False from r).elim
 | some _=>cases u with
  | none=>exact(show False from r).elim
  | some _=>rfl
theorem KV.val{kvs:List (κ×V)}{vs:List (κ×Value)}(r:KV kvs vs)(k:κ):RelO (valV kvs k) (valueAt vs k):=by
 unfold KV at r
 induction r with
 | nil=>exact True.intro
 | @cons p q ps qs h t ih=>
  obtain⟨h1,h2⟩:=h;by_cases e:p.1=k
  ·have e':q.1=k:=h1.symm.trans e;have b:valueAt (q::qs) k=some q.2:=by simp[valueAt,List.find?_cons,e']
   rw[uP e,b];exact h2
  ·have e':¬q.1=k:=fun z=>e (h1.trans z);have b:valueAt (q::qs) k=valueAt qs k:=by simp[valueAt,List.find?_cons,e']
   rw[uF e,b];exact ih
theorem KV.any{kvs:List (κ×V)}{vs:List (κ×Value)}(r:KV kvs vs)(k:κ):(kvs.any fun kv=>decide (kv.1=k))=vs.any fun kv=>decide (kv.1=k):=by
 unfold KV at r
 induction r with
 | nil=>rfl
 | cons h t ih=>rw[List.any_cons,List.any_cons,ih,h.1]
theorem KV.repl{kvs:List (κ×V)}{vs:List (κ×Value)}(r:KV kvs vs)(k:κ){y:V}{u:Value}(ry:RelV y u):
  KV (kvs.map fun kv=>if kv.1=k then(kv.1,y)else kv) (vs.map fun kv=>if kv.1=k then(kv.1,u)else kv):=by
 unfold KV at r |-
 induction r with
 | nil=>exact .nil
 | @cons p q ps qs h t ih=>
  rw[List.map_cons,List.map_cons];refine .cons ?_ ih;obtain⟨h1,h2⟩:=h;by_cases e:p.1=k
  ·rw[if_pos e,if_pos (h1.symm.trans e)];exact⟨h1,ry⟩
  ·rw[if_neg e,if_neg (fun z=>e (h1.trans z))];exact⟨h1,h2⟩
theorem KV.put{kvs:List (κ×V)}{vs:List (κ×Value)}(r:KV kvs vs)(k:κ){y:V}{u:Value}(ry:RelV y u):KV (putK kvs k y) (stored vs k u):=by
 unfold putK stored;rw[r.any k];by_cases e:(vs.any fun kv=>decide (kv.1=k))=true
 ·rw[if_pos e,if_pos e];exact r.repl k ry
 ·rw[if_neg e,if_neg e];exact Paired.snoc r ⟨rfl,ry⟩
theorem KV.length{kvs:List (κ×V)}{vs:List (κ×Value)}(r:KV kvs vs):kvs.length=vs.length:=Paired.length r
end
theorem z2v{P:Program}{w:World}{k:Key}{u:Value}(r:RelV (kV k) u):(zT P w).is k u=true:=by
 cases k with
 | inl i=>obtain⟨t,e⟩:=(show ∃t,u=Value.int i t from r);subst e;exact z2m P w i t
 | inr x=>obtain⟨t,e⟩:=(show ∃t,u=Value.str x t from r);subst e;exact z2i P w x t
theorem z1l{P:Program}{w:World}:∀{ks:List Key} {us:List Value},Vals (ks.map kV) us->ItemsAre (zT P w) ks us
 | [],_,r=>by rw[List.map_nil]at r;cases r;exact .nil
 | k::ks,_,r=>by
  rw[List.map_cons]at r;cases r with
  | cons h t=>exact .cons (z2v h) (z1l t)
noncomputable abbrev KT(H:Hp):List (List Key×V)->List (List Key×Addr×Value)->Prop:=Paired fun p q=>p.1=q.1/\H q.2.1=some (.tup (p.1.map kV))/\RelV p.2 q.2.2
theorem KT.val{H:Hp}{kvs:List (List Key×V)}{xs:List (List Key×Addr×Value)}(r:KT H kvs xs)(k:List Key):RelO (valV kvs k) ((atKey xs k).map (·.2)):=by
 induction r with
 | nil=>exact True.intro
 | @cons p q ps qs h t ih=>
  obtain⟨h1,_,h2⟩:=h;by_cases e:p.1=k
  ·have e':q.1=k:=h1.symm.trans e;have b:atKey (q::qs) k=some q.2:=by simp[atKey,List.find?_cons,e']
   rw[uP e,b];exact h2
  ·have e':¬q.1=k:=fun z=>e (h1.trans z);have b:atKey (q::qs) k=atKey qs k:=by simp[atKey,List.find?_cons,e']
   rw[uF e,b];exact ih
theorem KT.repl{H:Hp}{kvs:List (List Key×V)}{xs:List (List Key×Addr×Value)}(r:KT H kvs xs)(k:List Key){y:V}{u:Value}(ry:RelV y u):
  KT H (kvs.map fun kv=>if kv.1=k then(kv.1,y)else kv) (xs.map (putAt k u)):=by
 induction r with
 | nil=>exact .nil
 | @cons p q ps qs h t ih=>
  rw[List.map_cons,List.map_cons];refine .cons ?_ ih;obtain⟨h1,h2,h3⟩:=h;unfold putAt;by_cases e:p.1=k
  ·rw[if_pos e,if_pos (h1.symm.trans e)];exact⟨h1,h2,ry⟩
  ·rw[if_neg e,if_neg (fun z=>e (h1.trans z))];exact⟨h1,h2,h3⟩
theorem KT.put{H:Hp}{kvs:List (List Key×V)}{xs:List (List Key×Addr×Value)}(r:KT H kvs xs)(k:List Key){b:Addr}{y:V}{u:Value}(hb:H b=some (.tup (k.map kV)))(ry:RelV y u):
  KT H (putK kvs k y) (storedH xs k b u):=by
 have e:(kvs.any fun kv=>decide (kv.1=k))=(atKey xs k).isSome:=by
  rw[z3q,(r.val k).isSome_eq,Option.isSome_map]
 unfold putK storedH;rw[e];by_cases q:(atKey xs k).isSome=true
 ·rw[if_pos q,if_pos q];exact r.repl k ry
 ·rw[if_neg q,if_neg q];exact Paired.snoc r ⟨rfl,hb,ry⟩
theorem KT.keeps{H H':Hp}{kvs:List (List Key×V)}{xs:List (List Key×Addr×Value)}(r:KT H kvs xs)(ht:∀b ys,H b=some (.tup ys)->H' b=some (.tup ys)):KT H' kvs xs:=
 Paired.mapP r fun _ _ z=>⟨z.1,ht _ _ z.2.1,z.2.2⟩
section
variable{P:Program}{w:World}{H:Hp}{h:Heap}{a:Addr}
theorem zBq{u:HO}(ok:HOk P w H h)(e:Rd H a u):ObjOk P w H h a u:=e.ok ok
theorem z3y{kvs:List (Key×V)}(ok:HOk P w H h)(e:Rd H a (.dK kvs)):kvs.length<=sizeLine/\(a == sysModules)=false/\∃vs,KV kvs vs/\h.DictOf (zT P w) a vs:=
 show ObjOk P w H h a (.dK kvs) from zBq ok e
theorem z71{kvs:List (Key×V)}(ok:HOk P w H h)(e:H a=some (.dK kvs)):kvs.length<=sizeLine/\(a == sysModules)=false/\∃vs,KV kvs vs/\h.DictOf (zT P w) a vs:=z3y ok (.inl e)
theorem wA{ks:List Key}(ok:HOk P w H h)(e:H a=some (.tup (ks.map kV))):(tupleKind (zT P w)).is h ks a:=by
 obtain⟨_,its,r,o,h1,h2,n,h3⟩:=(show ObjOk P w H h a (.tup (ks.map kV)) from ok a _ e);exact⟨o,its.toArray,n,h1,h2,h3,by simpa using z1l r⟩
theorem z4Y{kvs:List (List Key×V)}(ok:HOk P w H h)(e:Rd H a (.dT kvs)):kvs.length<=sizeLine/\(a == sysModules)=false/\
  ∃xs,KT H kvs xs/\h.DictOfH (tupleKind (zT P w)) a xs:=by
 obtain⟨z,y,xs,r,o,es,ep,h1,h2,h3,h4,h5⟩:=(show ObjOk P w H h a (.dT kvs) from zBq ok e);refine⟨z,y,xs,r,o,es,ep,h1,h2,h3,h4,fun x hx=>?_,h5⟩;have all:∀{l:List (List Key×V)} {m:List (List Key×Addr×Value)},KT H l m->∀x∈m,(tupleKind (zT P w)).is h x.1 x.2.1:=by
  intro l m q
  induction q with
  | nil=>intro x hx;exact nomatch hx
  | @cons p q ps qs hq t ih=>
   intro x hx;rcases List.mem_cons.mp hx with e | hx
   ·subst e;exact wA ok (by rw[<-hq.1];exact hq.2.1)
   ·exact ih x hx
 exact all r x hx
theorem z70{kvs:List (List Key×V)}(ok:HOk P w H h)(e:H a=some (.dT kvs)):kvs.length<=sizeLine/\(a == sysModules)=false/\
  ∃xs,KT H kvs xs/\h.DictOfH (tupleKind (zT P w)) a xs:=z4Y ok (.inl e)
end
def DGet(H:Hp)(a:Addr)(y:V)(r:Option V):Prop:=
 (∃kvs k,Rd H a (.dK kvs)/\y=kV k/\r=valV kvs k)\/∃kvs k b,Rd H a (.dT kvs)/\y=.ref b/\H b=some (.tup (k.map kV))/\r=valV kvs k
def DPut(H:Hp)(a:Addr)(y v:V)(H':Hp):Prop:=
 (∃kvs k,H a=some (.dK kvs)/\y=kV k/\kvs.length<sizeLine/\H'=upd H a (.dK (putK kvs k v)))\/
 ∃kvs k b,H a=some (.dT kvs)/\y=.ref b/\H b=some (.tup (k.map kV))/\kvs.length<sizeLine/\H'=upd H a (.dT (putK kvs k v))
theorem DPut.k{H:Hp}{a:Addr}{kvs:List (Key×V)}{k:Key}{v:V}(e:H a=some (.dK kvs))(hl:kvs.length<sizeLine):DPut H a (kV k) v (upd H a (.dK (putK kvs k v))):=.inl ⟨kvs,k,e,rfl,hl,rfl⟩
theorem DPut.t{H:Hp}{a b:Addr}{kvs:List (List Key×V)}{k:List Key}{v:V}(e:H a=some (.dT kvs))(eb:H b=some (.tup (k.map kV)))(hl:kvs.length<sizeLine):
  DPut H a (.ref b) v (upd H a (.dT (putK kvs k v))):=.inr ⟨kvs,k,b,e,rfl,eb,hl,rfl⟩
section
variable{X:Cx}{pins:List (Addr×Obj)}{σ:St}{H:Hp}{s:Shared}{a:Addr}{y v:V}{u r:Value}{o:Option V}{A:Around}{E:Value->Shared->Prop}
theorem Inv.big(I:Inv X pins σ H s):sysModules<s.heap.objs.size:=by
 have h:mainGlobals<s.heap.objs.size:=(I.mod.glob.keeps I.bk).lt;exact Nat.lt_trans (by decide) h
theorem z5a{Q:Value->Shared->Prop}(hu:A.units+1<cLine)(I:Inv X pins σ H s)(g:DGet H a y (some v))(ry:RelV y u)(h:∀w' s',Inv X pins σ H s'->RelV v w'->Q w' s'):
  wpAny (model X.prog X.w) A (getItem (.ref a) u) Q E s:=by
 rcases g with ⟨kvs,k,e,ey,l⟩ | ⟨kvs,k,b,e,ey,eb,l⟩
 ·subst ey;obtain⟨z,hd,vs,rel,dd⟩:=z3y I.hok e;obtain⟨w',hw,rw'⟩:=RelO.some_of (v:=v) (o:=valueAt vs k) (by rw[l];exact rel.val k);exact wpAny_getItem_of (z2v ry) dd.mapOf hw (h w' _ (I.tok _) rw')
 ·subst ey;cases(show u=Value.ref b from ry);obtain⟨z,hd,xs,rel,dd⟩:=z4Y I.hok e;obtain⟨w',hw,rw'⟩:=RelO.some_of (v:=v) (o:=(atKey xs k).map (·.2)) (by rw[l];exact rel.val k);obtain⟨p,hp,hp2⟩:=Option.map_eq_some_iff.mp hw;refine wpAny_getItem_heap (tupleKind_room_in1 hu) (wA I.hok eb) dd hp ?_;rw[hp2];exact h w' _ (I.tok _) rw'
theorem d_in{Q:Value->Shared->Prop}(hu:A.units+1<cLine)(I:Inv X pins σ H s)(g:DGet H a y o)(ry:RelV y u)(h:∀s',Inv X pins σ H s'->Q (.bool o.isSome) s'):
  wpAny (model X.prog X.w) A (compareOp .In u (.ref a)) Q E s:=by
 rcases g with ⟨kvs,k,e,ey,l⟩ | ⟨kvs,k,b,e,ey,eb,l⟩
 ·subst ey;obtain⟨z,hd,vs,rel,dd⟩:=z3y I.hok e;refine wpAny_in_of (z2v ry) hd dd.mapOf ?_;rw[<-(rel.val k).isSome_eq,<-l];exact h _ (I.tok _)
 ·subst ey;cases(show u=Value.ref b from ry);obtain⟨z,hd,xs,rel,dd⟩:=z4Y I.hok e;refine wpAny_in_heap (tupleKind_room_in1 hu) (wA I.hok eb) hd dd ?_;have q:=(rel.val k).isSome_eq;rw[Option.isSome_map]at q;rw[<-q,<-l];exact h _ (I.tok _)
theorem zAD{Q:Value->Shared->Prop}(hu:A.units+1<cLine)(I:Inv X pins σ H s)(g:DGet H a y o)(ry:RelV y u)(h:∀s',Inv X pins σ H s'->Q (.bool (!o.isSome)) s'):
  wpAny (model X.prog X.w) A (compareOp .NotIn u (.ref a)) Q E s:=by
 rcases g with ⟨kvs,k,e,ey,l⟩ | ⟨kvs,k,b,e,ey,eb,l⟩
 ·subst ey;obtain⟨z,hd,vs,rel,dd⟩:=z3y I.hok e;refine wpAny_notIn_of (z2v ry) hd dd.mapOf ?_;rw[<-(rel.val k).isSome_eq,<-l];exact h _ (I.tok _)
 ·subst ey;cases(show u=Value.ref b from ry);obtain⟨z,hd,xs,rel,dd⟩:=z4Y I.hok e;refine wpAny_notIn_heap (tupleKind_room_in1 hu) (wA I.hok eb) hd dd ?_;have q:=(rel.val k).isSome_eq;rw[Option.isSome_map]at q;rw[<-q,<-l];exact h _ (I.tok _)
theorem wJ{h':Heap}{t':Nat}{ob:HO}(I:Inv X pins σ H s)(mu:Mut (H a))(hs:Heap.SameBut a s.heap h')(he:∃q,h'.get? a=some q)(new:ObjOk X.prog X.w (upd H a ob) h' a ob):
  Inv X pins σ (upd H a ob) { s with heap:=h',toks:=t' }:=
 I.write (x:=a) (e:=a) mu (.inl rfl) (fun b q hb z=>(hs.2 b hb).trans z) he new
theorem z5J{P:Program}{w:World}{H':Hp}{h':Heap}{kvs:List (Key×V)}{vs:List (Key×Value)}(z:kvs.length<=sizeLine)(hd:(a == sysModules)=false)(rel:KV kvs vs)(dd:h'.DictOf (zT P w) a vs):
  ObjOk P w H' h' a (.dK kvs):=⟨z,hd,vs,rel,dd⟩
theorem ua{H':Hp}{Q:Unit->Shared->Prop}(hu:A.units+1<cLine)(I:Inv X pins σ H s)(g:DPut H a y v H')(ry:RelV y u)(rv:RelV v r)(h:∀s',Inv X pins σ H' s'->Q () s'):
  wpAny (model X.prog X.w) A (setItem (.ref a) u r) Q E s:=by
 rcases g with ⟨kvs,k,e,ey,l,eH⟩ | ⟨kvs,k,b,e,ey,eb,l,eH⟩
 ·subst ey eH;obtain⟨z,hd,vs,rel,dd⟩:=z71 I.hok e;have hz:vs.length<=sizeLine:=by rw[<-rel.length];exact z
  have hl:(putK kvs k v).length<=sizeLine:=by have:=xO kvs k v;omega
  refine wpAny_setItem_pairs (hsz:=hz) (z2v ry) dd fun h' dd' hs=>h _ ?_;have he:∃q,h'.get? a=some q:=let⟨q,_,_,hq,_⟩:=dd';⟨q,hq⟩
  exact wJ I (by rw[e];exact True.intro) hs he (z5J hl hd (rel.put k rv) dd')
 ·subst ey eH;cases(show u=Value.ref b from ry);obtain⟨z,hd,xs,rel,dd⟩:=z70 I.hok e;have hz:xs.length<=sizeLine:=by rw[<-Paired.length rel];exact z
  have hl:(putK kvs k v).length<=sizeLine:=by have:=xO kvs k v;omega
  refine wpAny_setItem_heap (hsz:=hz) (tupleKind_room_in1 hu) (wA I.hok eb) dd fun h' dd' hs=>h _ ?_;obtain⟨q,es,ep,hq,h2,h3,h4,_,h5⟩:=dd';refine wJ I (by rw[e];exact True.intro) hs ⟨q,hq⟩ ⟨hl,hd,_,(rel.put k eb rv).keeps fun c ys ec=>?_,q,es,ep,hq,h2,h3,h4,h5⟩;rw[zI (z5A ec e (fun z=>nomatch z))];exact ec
end
section
variable{X:Cx}{pins:List (Addr×Obj)}{σ:St}{H:Hp}{s:Shared}{a:Addr}{kvs:List (Key×V)}{k:Key}{u:Value}{A:Around}{E:Value->Shared->Prop}
end
theorem z2g{X:Cx}{pins:List (Addr×Obj)}{σ:St}{H:Hp}{s:Shared}{a:Addr}{y:V}{o:Option V}(I:Inv X pins σ H s)(g:DGet H a y o):s.TypeIs (.ref a) "dict":=by
 rcases g with ⟨kvs,k,e,_,_⟩ | ⟨kvs,k,b,e,_,_,_⟩
 ·obtain⟨_,_,vs,_,dd⟩:=z3y I.hok e;exact dd.typeIs
 ·obtain⟨_,_,xs,_,dd⟩:=z4Y I.hok e;exact dd.typeIs
section
variable{X:Cx}{o i e value:Expr}{pos pos' tpos:Pos}{td ty tv:TE}
end
theorem z3b{P:Program}{w:World}{H:Hp}(h:Heap)(hb:sysModules<h.objs.size):ObjOk P w H (h.push { cls:=.type "dict",data:=.dict #[] }) h.objs.size (.dK []):=
 ⟨Nat.zero_le _,beq_eq_false_iff_ne.mpr (Ne.symm (Nat.ne_of_lt hb)),[],.nil,Heap.DictOf.new h⟩
section
variable{X:Cx}{pos:Pos}
end
section
variable{X:Cx}{pins:List (Addr×Obj)}{σ:St}{H:Hp}{s:Shared}{a:Addr}{y d:V}{u r:Value}{o:Option V}{A:Around}{E:Value->Shared->Prop}
end
section
variable{X:Cx}{o e f:Expr}{apos cpos:Pos}{td ty tx:TE}
end
section
variable{X:Cx}{pins:List (Addr×Obj)}{σ:St}{H:Hp}{s:Shared}{a:Addr}{kvs:List (Key×V)}{A:Around}{E:Value->Shared->Prop}
end
section
variable{X:Cx}{pins:List (Addr×Obj)}{σ:St}{H:Hp}{s:Shared}{a:Addr}{y:V}{u:Value}{A:Around}{E:Value->Shared->Prop}
end
end L2
namespace Att
open PySem PySem.W PySem.Calls PyProof.Rows
theorem ux{P:Params}{h:Heap}:∀(ns:List Int) (vs:List Value),WellAll P h vs (ns.map WData.int)->IntsAre vs ns:=by
 intro ns
 induction ns with
 | nil=>
  intro vs w;rw[List.map_nil]at w;cases w;exact .nil
 | cons n ns ih=>
  intro vs w;rw[List.map_cons]at w;cases w with
  | cons a b=>
   cases a;exact .cons _ _ (ih _ b)
theorem z6E{l:OpenLaw}{n:Nat}(hn:l.most=some n){P:Params}{h:Heap}{args:List WData}{vals:List Value}
  (hpre:l.row.toRowW.claim.pre args=true) (hwl:WellAll P h vals args) :
  ∃a vs ns,vals=[Value.ref a]/\args=[WData.list (ns.map WData.int)]/\h.get? a=some { cls:=.type "list",data:=.seq vs.toArray }/\IntsAre vs ns/\ns.length<=n:=by
 have hsh:WShape.hasAll [] args [.list .int]=true:=(pre_splitW hpre).1;have hc:l.pre.holds [] { args:=args }=true:=(pre_splitW hpre).2;obtain⟨d,r,rfl,h1,h2⟩:=hasAllW_cons hsh;obtain rfl:=hasAllW_nil h2;obtain⟨xs,rfl,h3⟩:=hasW_list h1;obtain⟨ns,rfl⟩:=items_int h3;have hlen:ns.length<=n:=by
  unfold OpenLaw.pre at hc;have h4:(WTm.not (.lt (.lit (.int (n:Int))) (.len (.arg 0)))).holds [] { args:=[.list (ns.map .int)] }=true:=by
   have h4:=(holds_andW hc).1;rw[hn]at h4;exact h4
  have h5:=condW_of h4 (w_not (w_lt w_lit (w_len_list (w_arg rfl))));rw[List.length_map]at h5;refine Nat.le_of_not_lt fun q=>?_;have q':(n:Int)<((ns.length:Nat):Int):=by omega
  first
   | (rw[decide_eq_true q']at h5;exact absurd h5 (by decide))
   | (simp at h5;omega)
 cases hwl with
 | cons w1 w2=>
  cases w2;cases w1 with
  | list ho hall=>exact⟨_,_,ns,rfl,rfl,ho,ux ns _ hall,hlen⟩
theorem z5V(l:OpenLaw)(args:List WData):l.row.toRowW.claim.post args (.bool true) args=true:=
 postW_of (r:=l.row.toRowW) (X:=(true == true))
  (show WShape.has [] (.bool true) .bool=true by first | rfl | decide | simp[WShape.has,WShape.arms,WShape.armsAll])
  (show(WTm.eq .res (.lit (.bool true))).value [] { args:=args,res:=some (.bool true),after:=args }=some (.bool (true == true)) from w_eq_bool (w_res rfl) w_lit) rfl
theorem attach_call{l:OpenLaw}{n:Nat}{q:Program}{loose:List Str}{XP:(Str->Option Value)->Heap->Prop}{YP:World->Heap->Prop}{d:DefRec}
  (hn:l.most=some n) (hdf:d.params.defaults=[])
  (call:∀(w:World) (s₀ s₁:Shared) (mg mb:Str->Option Value) (fa:Addr) (o:Obj) (pm cd doc:Value) (a:Addr) (vs:List Value) (ns:List Int),
   Ground q loose [] XP w s₀ mg mb s₁.heap->YP w s₁.heap->
   s₁.heap.get? fa=some o->o.data=.func (docDef d.name d.params d.body d.scope pm cd doc)->s₁.heap.CodeRec cd d.name->mg d.name=some (.ref fa)->
   s₁.heap.get? a=some { cls:=.type "list",data:=.seq vs.toArray }->IntsAre vs ns->ns.length<=n->s₁.gens=#[]->
   codeAny (model l.prog w) callerA (.call (.ref fa) ⟨[.ref a],[]⟩) (fun r s'=>r=.ok (.ret (.bool true))/\OldK s₁.heap s'.heap/\s'.os=s₁.os/\AllBare s'.gens) s₁) :
  WalkO q loose XP YP l.row.toRowW d [] (fun f vs=>PySem.call f vs):=by
 intro w s₀ s₁ mg mb G Y fa o pm cd doc dV kV ho hd hcd hD hmg hg args vals as hpre hlay hrd hwl hlo;obtain rfl:dV=.none:=Dflts.none hD hdf;obtain rfl:kV=.none:=Dflts.noKw hD;obtain⟨a,vs,ns,rfl,rfl,hobj,hints,hlen⟩:=z6E hn hpre hwl;refine enter_call (codeAny_mono (call w s₀ s₁ mg mb fa o pm cd doc a vs ns G Y ho (fd_plain hd) hcd hmg hobj hints hlen hg) fun r s' hq=>?_);obtain⟨rfl,h2,h3,h4⟩:=hq;exact⟨.inl ⟨.bool true,.bool true,[],rfl,fun _=>rfl,.bool true,z5V l _,fun _=>⟨List.Pairwise.nil,fun _ hm=>(nomatch hm)⟩⟩,h2,h3,h4⟩
section
variable{prog:Program}{w:World}{A:Around}{E:Value->Shared->Prop}{s:Shared}{K:Frag}
noncomputable def zDE(h:Heap)(L d:Addr):List (Addr×Obj):=(List.range h.objs.size).filterMap fun a=>if a=L\/a=d then none else(h.get? a).map fun o=>(a,o)
end
end Att
namespace L2
open PySem PySem.Spec PyProof.Rows
theorem z2H:∀{vs:List Value} {ns:List Int},IntsAre vs ns->Vals (ns.map V.int) vs
 | _,_,.nil=>.nil
 | _,_,.cons n t h=>.cons ⟨t,rfl⟩ (z2H h)
def Only(H:Hp):Prop:=∀b,H b=none\/∃o xs,H b=some (.frz o (.lst xs))
theorem z8J{P:Program}{w:World}{K:W.Frag}{mg mb:Str->Option Value}{CX:CXT}{k:Nat}{fa a:Addr}{fd:FuncData}{x:Str}{sp:Sp}{s₁:Shared}{vs:List Value}{ns:List Int}
  (KX:K.In s₁.heap) (hns:s₁.heap.Ns mainGlobals mg) (hb:s₁.heap.Ns builtinsNs mb) (hbb:∀x:Str,x≠"__name__"->mb x=bootBuiltins x) (hlim:s₁.heap.NoLimit) (hg:s₁.gens=#[])
  (ha:s₁.heap.get? a=some { cls:=.type "list",data:=.seq vs.toArray }) (hi:IntsAre vs ns) (hl:ns.length<=sizeLine) (hr:Room k callerA)
  (F:∀base:Heap,K.In base->base.Ns mainGlobals mg->FnOk P w K mg base CX k fa fd [x] sp) (hbind:∀(s:Shared) (u:Value),BindsTo s fd ⟨[u],[]⟩ [(x,u)])
  (hsp:∀H:Hp,Only H->SqL K H a (ns.map V.int)->sp [.ref a] H (fun v _=>v=.bl true) fun _ _ _=>False)
  (hCX:∀H e s',CX [] H s₁ (fun _ _ _=>False) e s'->False) :
  codeAny (model P w) callerA (.call (.ref fa) ⟨[.ref a],[]⟩) (fun r s'=>r=.ok (.ret (.bool true))/\OldK s₁.heap s'.heap/\s'.os=s₁.os/\AllBare s'.gens) s₁:=by
 have rv:=z2H hi;have lenV:=hi.length;have core:∀H:Hp,Only H->SqL K H a (ns.map V.int)->HOk P w H s₁.heap->(∀b,H b≠none->b=a)->(H a≠none->K.lookup a=none)->
   codeAny (model P w) callerA (.call (.ref fa) ⟨[.ref a],[]⟩) (fun r s'=>r=.ok (.ret (.bool true))/\OldK s₁.heap s'.heap/\s'.os=s₁.os/\AllBare s'.gens) s₁:=by
  intro H hO hS hok hA hK;have base_of:∀{b:Addr} {o:Obj},s₁.heap.get? b=some o->H b=none->(hidT s₁.heap H).get? b=some o:=fun e n=>z83 e n;have noA:∀{b:Addr} {o:Obj} {es:Array DictEntry} {ep:Nat},s₁.heap.get? b=some o->o.data=.dict es ep->H b=none:=fun{b o es ep} e d=>by
   cases q:H b with
   | none=>rfl
   | some u=>
    have e':b=a:=hA b (by rw[q];simp);subst e';rw[ha]at e;cases e;have d':Data.seq vs.toArray _=Data.dict es ep:=d;cases d'
  have nsK:∀{b:Addr} {m:Str->Option Value},s₁.heap.Ns b m->(hidT s₁.heap H).Ns b m:=fun{b m} ⟨o,es,ep,e,d,r⟩=>⟨o,es,ep,base_of e (noA e d),d,r⟩;have hKb:K.In (hidT s₁.heap H):=fun b o e=>base_of (KX b o e) (by
   cases q:H b with
   | none=>rfl
   | some u=>
    have e':b=a:=hA b (by rw[q];simp);subst e';rw[hK (by rw[q];simp)]at e;cases e)
  have hM:Mod K mg (hidT s₁.heap H):=⟨hKb,nsK hns,⟨mb,nsK hb,hbb⟩,let⟨mc,h1,h2⟩:=hlim;⟨mc,nsK h1,h2⟩⟩;have e0:Env0 P w K mg (hidT s₁.heap H) callerA [] s₁ H:=⟨rfl,hM,fun b o e=>z9m e,Nat.le_of_eq (z6k _ _),trivial,fun b hb=>absurd (show b∈([]:List Addr) from hb) (by simp),hok,.of_eq hg⟩;refine codeAny_mono ((F _ hKb (nsK hns)).run callerA [] s₁ H ⟨[.ref a],[]⟩ [.ref a] [.ref a] _ _ hr e0 (hbind s₁ (.ref a)) (.cons rfl .nil) (hsp H hO hS)) fun r s' h=>?_;cases r with
  | error e=>exact(hCX H e s' h).elim
  | ok fl=>
   cases fl with
   | next=>exact False.elim h
   | brk=>exact False.elim h
   | cont=>exact False.elim h
   | ret u=>
    obtain⟨v,H',os,bare,un,hok',r',q⟩:=h;have q':v=.bl true:=q;subst q';obtain rfl:u=Value.bool true:=r';refine⟨rfl,OldK.of_keep fun b o e=>?_,os,bare⟩;cases q:H b with
    | none=>exact un.keep b o e q (by intro z;exact absurd (show b∈([]:List Addr) from z) (by simp)) (by simp)
    | some u=>
     rcases hO b with z | ⟨ob,xs,z⟩
     ·rw[q]at z;cases z
     ·have z2:=un.frzs b ob _ z;obtain⟨e1,_⟩:=hok b _ z;obtain⟨e2,_⟩:=hok' b _ z2;rw[e]at e1;cases e1;exact e2
 cases hk:K.lookup a with
 | some o=>
  have e:=KX a o hk;rw[ha]at e;cases e;refine core (fun _=>none) (fun _=>.inl rfl) (.inr ⟨_,vs.toArray,_,hk,rfl,rfl,rfl,by rw[List.size_toArray,lenV];exact hl,by simpa using rv⟩) (fun b u z=>by have z':(none:Option HO)=some u:=z;cases z') (fun b z=>absurd rfl z) fun z=>absurd rfl z
 | none=>
  refine core (fun b=>if b=a then some (.frz { cls:=.type "list",data:=.seq vs.toArray } (.lst (ns.map V.int)))else none) (fun b=>?_) (.inl (.inr ⟨{ cls:=.type "list",data:=.seq vs.toArray },if_pos rfl⟩)) (fun b u z=>?_) (fun b z=>?_) fun _=>hk
  ·by_cases hb:b=a
   ·exact .inr ⟨_,_,if_pos hb⟩
   ·exact .inl (if_neg hb)
  ·by_cases hb:b=a
   ·have z':=(if_pos hb).symm.trans z;cases z';subst hb;exact⟨ha,by rw[List.length_map];exact hl,vs,_,rv,ha⟩
   ·have z':=(if_neg hb).symm.trans z;cases z'
  ·by_cases hb:b=a
   ·exact hb
   ·exact absurd (if_neg hb) z
noncomputable abbrev KOf{K:W.Frag}{h:Heap}(_:K.In h):W.Frag:=K
theorem walk_of{l:W.OpenLaw}{n k:Nat}{q:Program}{loose:List Str}{XP:(Str->Option Value)->Heap->Prop}{YP:World->Heap->Prop}{d:DefRec}{K:Params->W.Frag}{CX:World->CXT}{sp:World->Sp}{x:Str}
  (hn:l.most=some n) (hn2:n<=sizeLine) (hdf:d.params.defaults=[]) (hr:Room k callerA)
  (hY:∀(w:World) (h:Heap),YP w h->(K w.params).In h)
  (F:∀(w:World) (mg:Str->Option Value) (fa:Addr) (h:Heap),(K w.params).In h->h.Ns mainGlobals mg->mg d.name=some (.ref fa)->
   ∃fd:FuncData,(∀(s:Shared) (u:Value),BindsTo s fd ⟨[u],[]⟩ [(x,u)])/\
    ∀base:Heap,(K w.params).In base->base.Ns mainGlobals mg->FnOk l.prog w (K w.params) mg base (CX w) k fa fd [x] (sp w))
  (hsp:∀(w:World) (H:Hp) (a:Addr) (ns:List Int),ns.length<=n->Only H->SqL (K w.params) H a (ns.map V.int)->sp w [.ref a] H (fun v _=>v=.bl true) fun _ _ _=>False)
  (hCX:∀(w:World) (H:Hp) (s:Shared) (e:Value) (s':Shared),CX w [] H s (fun _ _ _=>False) e s'->False) :
  W.WalkO q loose XP YP l.row.toRowW d [] (fun f vs=>PySem.call f vs):=by
 refine Att.attach_call hn hdf fun w s₀ s₁ mg mb fa o pm cd doc a vs ns G Y ho hd hcd hmg hobj hints hlen hg=>?_;have KX:=hY w _ Y;obtain⟨fd,hb,hF⟩:=F w mg fa _ KX G.T.g hmg;exact z8J KX G.T.g G.T.b G.T.builtins G.T.nolimit hg hobj hints (Nat.le_trans hlen hn2) hr hF hb (fun H hO hS=>hsp w H a ns hlen hO hS) fun H e s'=>hCX w H s₁ e s'
noncomputable def xN(s:Stmt):Arguments:=match s with
 | .FunctionDef _ a _ _ _ _ _ _ _ _=>a
 | _=>{ posonlyargs:=[],args:=[],vararg:=none,kwonlyargs:=[],kw_defaults:=[],kwarg:=none,defaults:=[] }
noncomputable def yb(s:Stmt):List Stmt:=match s with
 | .FunctionDef _ _ b _ _ _ _ _ _ _=>b
 | _=>[]
noncomputable def zC(s:Stmt):Scope:=match s with
 | .FunctionDef _ _ _ _ _ _ sc _ _ _=>sc
 | _=>{ kind:=.function,names:=[],isGenerator:=false,isCoroutine:=false }
noncomputable abbrev CX0:CXT:=fun _ _ _ _ _ _=>False
noncomputable abbrev E0:XK:=fun _ _ _=>False
theorem zX{X:Cx}:z0c CX0 X E0:=fun _ _ _ _ _ _ _ h=>h.elim
structure Fun(K:W.Frag)(x qual:Str)(st:Stmt)(f:Addr)(fd:FuncData):Prop where
 ex:∃(oc:Value) (od:Option Addr) (kV doc pm:Value) (an:Option Addr) (cdv ct:Value) (osl:Array (Option Value)),
  fd=W.fnOf x qual (xN st) (yb st) (zC st) .none kV doc pm an cdv ct/\K.lookup f=some ⟨oc,od,.func fd,osl⟩/\W.codeIn K cdv qual=true
 kp:W.keepIn K (.ref f)=true
section
variable{P:Program}{w:World}{K:W.Frag}{mg:Str->Option Value}{base:Heap}
theorem Fun.ok{x qual:Str}{st:Stmt}{f:Addr}{fd:FuncData}{N ps:List Str}{k:Nat}{sp:Sp}(F:Fun K x qual st f fd)(S:FnScope N ps (zC st))(len:∀vs H Q E,sp vs H Q E->vs.length=ps.length)
  (hbody:∀(cdv:Value) (A:Around) (outer:List Env) (s:Shared) (H:Hp) (vs:List V) (Q:VK) (E:XK),Room k (A.deeper (envOfC qual (zC st) s.heap.objs.size f cdv))->sp vs H Q E->
   ∃t,PSs (cxOf CX0 P w K mg base N qual (zC st) f cdv A outer s H E).nox (yb st) t/\t { nx:=fun _ H'=>Q .non H',rt:=Q } (start N vs) H):FnOk P w K mg base CX0 (k+1) f fd ps sp:=by
 obtain⟨oc,od,kV,doc,pm,an,cdv,ct,osl,rfl,lk,hcd⟩:=F.ex;refine zCi lk hcd S len fun A outer s H vs Q E hr hsp=>?_;obtain⟨t,h,q⟩:=hbody cdv A outer s H vs Q E hr hsp;exact⟨t,h.nox,q⟩
theorem Fun.binds{x qual:Str}{st:Stmt}{f:Addr}{fd:FuncData}{ps:List Str}(F:Fun K x qual st f fd)
  (h:∀(kV doc pm:Value) (an:Option Addr) (cdv ct:Value) (us:List Value),us.length=ps.length->bindArgs (W.fnOf x qual (xN st) (yb st) (zC st) .none kV doc pm an cdv ct) ⟨us,[]⟩=pure (ps.zip us)):Binds K fd ps []:=by
 obtain⟨oc,od,kV,doc,pm,an,cdv,ct,osl,rfl,lk,hcd⟩:=F.ex;exact .all (h kV doc pm an cdv ct)
theorem zB7{x qual:Str}{st:Stmt}{f:Addr}{oc:Value}{od an:Option Addr}{osl:Array (Option Value)}{kV doc pm cdv ct:Value}(l:K.lookup f=some ⟨oc,od,.func (W.fnOf x qual (xN st) (yb st) (zC st) .none kV doc pm an cdv ct),osl⟩)
  (c:W.codeIn K cdv qual=true) (k:W.keepIn K (.ref f)=true):Fun K x qual st f (W.fnOf x qual (xN st) (yb st) (zC st) .none kV doc pm an cdv ct):=⟨⟨oc,od,kV,doc,pm,an,cdv,ct,osl,rfl,l,c⟩,k⟩
end
theorem yJ{A:Around}{k:Nat}(hr:Room k A):A.units+1<cLine:=Nat.lt_of_le_of_lt (Nat.add_le_add_left (by decide:1<=64) _) hr.units
section
variable{X:Cx}
theorem pv(i:Nat){x:Str}{pos:Pos}(hN:X.N[i]?=some x:=by rfl)(hv:Vis X.env.scope x:=by first | exact Or.inl rfl | exact Or.inr (Or.inl rfl) | exact Or.inr (Or.inr rfl))(hd:(x == ("__debug__":Str))=false:=by decide)
  (hcd:(x == ("__classdict__":Str))=false:=by decide):PE X (.Name x pos) (tVar i):=zBo hN hv hd hcd
end
theorem ite2{c A B:Prop}[Decidable c](h1:c->A)(h2:¬c->B):if c then A else B:=by
 by_cases h:c
 ·rw[if_pos h];exact h1 h
 ·rw[if_neg h];exact h2 h
def Same(H H':Hp):Prop:=∀b o,H b=some o->H' b=some o
theorem Same.refl(H:Hp):Same H H:=fun _ _ h=>h
theorem Same.trans{H H1 H2:Hp}(a:Same H H1)(b:Same H1 H2):Same H H2:=fun c o h=>b c o (a c o h)
theorem Same.free{H H':Hp}(e:Same H H'){l:Addr}(h:H' l=Option.none):H l=Option.none:=by
 cases q:H l with
 | none=>rfl
 | some o=>
  rw[e l o q]at h;cases h
theorem Same.seq{K:W.Frag}{H H':Hp}{a:Addr}{xs:List V}(e:Same H H')(h:SqL K H a xs):SqL K H' a xs:=by
 rcases h with (h | ⟨o,h⟩) | h
 ·exact .inl (.inl (e _ _ h))
 ·exact .inl (.inr ⟨o,e _ _ h⟩)
 ·exact .inr h
section
variable{κ:Type}[DecidableEq κ]
end
end L2
set_option maxHeartbeats 4000000
namespace L2
open PySem PySem.Spec PyProof.Rows
noncomputable def yR(cells:List (Str×Addr)):List (Str×NameKind)->List (Str×Addr)->List (Str×Addr)
 | [],acc=>acc
 | (n,k)::r,acc=>if k=.free then yR cells r ((n,(cells.lookup n).getD 0)::acc)else yR cells r acc
theorem z7C{scope:Scope}{env:Env}(h:∀n,(n,NameKind.free)∈scope.names->∃c,env.cells.lookup n=some c):
  closureFor scope env=pure (yR env.cells scope.names []):=by
 simp only[closureFor];generalize scope.names=l at h;generalize([]:List (Str×Addr))=acc
 induction l generalizing acc with
 | nil=>rfl
 | cons x r ih=>
  obtain⟨n,k⟩:=x;rw[List.forIn_cons];by_cases hk:k=.free
  ·subst hk;obtain⟨c,hc⟩:=h n List.mem_cons_self;have e:cellOf env n=pure c:=by unfold cellOf;rw[hc]
   simp only[beq_self_eq_true,if_true,e,pure_bind]
   have:=ih (fun m hm=>h m (List.mem_cons_of_mem _ hm)) ((n,c)::acc);unfold yR;rw[if_pos rfl,hc];exact this
  ·have hb:(k == NameKind.free)=false:=by simpa using hk
   simp only[hb,Bool.false_eq_true,if_false,pure_bind];unfold yR;rw[if_neg hk];exact ih (fun m hm=>h m (List.mem_cons_of_mem _ hm)) acc
theorem yw{cells:List (Str×Addr)}:∀{l:List (Str×NameKind)} {acc:List (Str×Addr)} {n:Str} {c:Addr},(n,c)∈yR cells l acc->(n,c)∈acc\/((n,NameKind.free)∈l/\c=(cells.lookup n).getD 0)
 | [],_,_,_,h=>.inl h
 | (m,k)::r,acc,n,c,h=>by
  unfold yR at h;split at h
  next hk=>
   rcases yw h with h | ⟨h,e⟩
   ·rcases List.mem_cons.mp h with e | h
    ·cases e;subst hk;exact .inr ⟨List.mem_cons_self,rfl⟩
    ·exact .inl h
   ·exact .inr ⟨List.mem_cons_of_mem _ h,e⟩
  next=>
   rcases yw h with h | ⟨h,e⟩
   ·exact .inl h
   ·exact .inr ⟨List.mem_cons_of_mem _ h,e⟩
theorem xB{α:Type}:∀{l:List (Str×α)} {n:Str} {c:α},(n,c)∈l->∃c',l.lookup n=some c'
 | (k,v)::r,n,c,h=>by
  rw[List.lookup_cons];cases hb:n == k with
  | true=>exact⟨v,rfl⟩
  | false=>
   rcases List.mem_cons.mp h with e | h
   ·cases e;simp at hb
   ·exact xB h
theorem wI{cells:List (Str×Addr)}:∀{l:List (Str×NameKind)} {acc:List (Str×Addr)} {n:Str},((n,NameKind.free)∈l\/∃c,(n,c)∈acc)->∃c,(n,c)∈yR cells l acc
 | [],_,_,h=>by
  rcases h with h | h
  ·exact nomatch h
  ·exact h
 | (m,k)::r,acc,n,h=>by
  unfold yR;split
  next hk=>
   refine wI ?_;rcases h with h | ⟨c,h⟩
   ·rcases List.mem_cons.mp h with e | h
    ·cases e;exact .inr ⟨_,List.mem_cons_self⟩
    ·exact .inl h
   ·exact .inr ⟨c,List.mem_cons_of_mem _ h⟩
  next hk=>
   refine wI ?_;rcases h with h | h
   ·rcases List.mem_cons.mp h with e | h
    ·cases e;exact absurd rfl hk
    ·exact .inl h
   ·exact .inr h
theorem yH:∀(l:List (Str×NameKind)) (n:Nat) (acc:List (Str×Addr)),cellsFrom n l acc=cellsFrom n l []++acc
 | [],_,_=>rfl
 | (m,k)::r,n,acc=>by
  unfold cellsFrom;split
  ·rw[yH r (n+1) ((m,n)::acc),yH r (n+1) [(m,n)],List.append_assoc];rfl
  ·exact yH r n acc
theorem xh:∀{l:List (Str×NameKind)} {n:Nat} {acc:List (Str×Addr)} {x:Str} {c:Addr},(x,c)∈cellsFrom n l acc->(x,c)∈acc\/((x,NameKind.cell)∈l/\n<=c)
 | [],_,_,_,_,h=>.inl h
 | (m,k)::r,n,acc,x,c,h=>by
  unfold cellsFrom at h;split at h
  next hk=>
   rcases xh h with h | ⟨h,e⟩
   ·rcases List.mem_cons.mp h with e | h
    ·cases e;rw[beq_iff_eq.mp hk];exact .inr ⟨List.mem_cons_self,Nat.le_refl _⟩
    ·exact .inl h
   ·exact .inr ⟨List.mem_cons_of_mem _ h,by omega⟩
  next=>
   rcases xh h with h | ⟨h,e⟩
   ·exact .inl h
   ·exact .inr ⟨List.mem_cons_of_mem _ h,e⟩
theorem yM{scope:Scope}{env:Env}{y:Str}:(relabel scope env).names.lookup y=(scope.names.lookup y).map fun k=>if (k == .free && env.scope.kind == .function && env.kindOf y == some .cell)=true then .cell else k:=by
 show(scope.names.map _).lookup y=_;generalize scope.names=l
 induction l with
 | nil=>rfl
 | cons x r ih=>
  obtain⟨n,k⟩:=x;rw[List.map_cons,List.lookup_cons];cases hb:y == n with
  | true=>
   have e:=beq_iff_eq.mp hb;subst e;by_cases hc:(k == NameKind.free && env.scope.kind == .function && env.kindOf y == some .cell)=true
   ·simp only[hc,if_true,List.lookup_cons,beq_self_eq_true,Option.map_some]
   ·simp only[hc,Bool.false_eq_true,if_false,List.lookup_cons,beq_self_eq_true,Option.map_some]
  | false=>
   by_cases hc:(k == NameKind.free && env.scope.kind == .function && env.kindOf n == some .cell)=true
   ·simp only[hc,if_true,List.lookup_cons,hb];exact ih
   ·simp only[hc,Bool.false_eq_true,if_false,List.lookup_cons,hb];exact ih
noncomputable def uz(N:List Str)(sc scope:Scope)(xs:List Str)(N':List Str):Bool:=
 scope.kind == .function && (N'.length == N.length+xs.length) && decide N'.Nodup && decide (N'.drop N.length=xs)
 && xs.all (fun x=>scope.names.lookup x == some .local || scope.names.lookup x == some .cell)
 && scope.names.all (fun p=>scope.names.lookup p.1 == some p.2)
 && scope.names.all (fun p=>!(p.2 == .free) || sc.names.lookup p.1 == some .cell || sc.names.lookup p.1 == some .free)
 && (List.range N.length).all fun i=>match N'[i]? with
  | none=>true
  | some y=>match scope.names.lookup y with
   | none=>true
   | some .free=>N[i]? == some y
   | some _=>false
noncomputable abbrev u9(N:List Str)(sc scope:Scope)(x:Str)(N':List Str):Bool:=uz N sc scope [x] N'
structure CompOk(N:List Str)(sc scope:Scope)(xs:List Str)(N':List Str):Prop where
 kind:scope.kind=.function
 len:N'.length=N.length+xs.length
 nd:N'.Nodup
 here:N'.drop N.length=xs
 tgt:∀x∈xs,scope.names.lookup x=some .local\/scope.names.lookup x=some .cell
 uniq:∀p∈scope.names,scope.names.lookup p.1=some p.2
 cap:∀y,(y,NameKind.free)∈scope.names->sc.names.lookup y=some .cell\/sc.names.lookup y=some .free
 see:∀i y,i<N.length->N'[i]?=some y->scope.names.lookup y≠none->scope.names.lookup y=some .free/\N[i]?=some y
theorem CompOk.of{N:List Str}{sc scope:Scope}{xs:List Str}{N':List Str}(h:uz N sc scope xs N'=true):CompOk N sc scope xs N':=by
 unfold uz at h;simp only[Bool.and_eq_true,Bool.or_eq_true,beq_iff_eq,decide_eq_true_eq,List.all_eq_true]at h;obtain⟨⟨⟨⟨⟨⟨⟨h1,h2⟩,h3⟩,h4⟩,h5⟩,h6⟩,h7⟩,h8⟩:=h;refine⟨h1,h2,h3,h4,h5,h6,fun y hy=>?_,fun i y hi e hn=>?_⟩
 ·rcases h7 _ hy with (h | h) | h
  ·simp at h
  ·exact .inl h
  ·exact .inr h
 ·have q:=h8 i (List.mem_range.mpr hi);rw[e]at q;dsimp only at q;cases e2:scope.names.lookup y with
  | none=>exact absurd e2 hn
  | some k=>
   rw[e2]at q;cases k<;>first | exact(Bool.false_ne_true q).elim | exact⟨rfl,beq_iff_eq.mp q⟩
noncomputable def zS(X:Cx)(scope:Scope)(C:Addr):List (Str×Addr):=cellsFrom (C+1) scope.names (yR X.env.cells scope.names [])
noncomputable def zY(X:Cx)(scope:Scope)(N':List Str)(C:Addr)(s:Shared)(H:Hp)(fp:List Addr):Cx:=
 { X with N:=N',s₀:=s,H₀:=H,env:=compEnvC scope (zS X scope C) C X.env,outer:=X.stack,ex:=fp,fn:=fun y=>scope.names.lookup y == some .cell,pn:=[],xe:=fun _ _=>False }
section
variable{X:Cx}{pins:List (Addr×Obj)}{σ:St}{H:Hp}{s:Shared}{scope:Scope}{N':List Str}{x:Str}{xs:List Str}{fp:List Addr}
theorem zm(ok:X.Ok)(h:CompOk X.N X.env.scope scope xs N'){C:Nat}{y:Str}{c:Nat}(e:(y,c)∈zS X scope C):
  (scope.names.lookup y=some .free/\X.env.cells.lookup y=some c)\/(scope.names.lookup y=some .cell/\C+1<=c):=by
 rcases xh e with z | ⟨z,l⟩
 ·rcases yw z with z | ⟨z,l⟩
  ·exact nomatch z
  ·obtain⟨c',e'⟩:=ok.has y (h.cap y z);rw[e']at l;exact .inl ⟨h.uniq _ z,by rw[e',l];rfl⟩
 ·exact .inr ⟨h.uniq _ z,l⟩
theorem wB(ok:X.Ok)(h:CompOk X.N X.env.scope scope xs N'){C:Addr}{y:Str}(e:scope.names.lookup y=some .free):∃c,(zS X scope C).lookup y=some c/\X.env.cells.lookup y=some c:=by
 obtain⟨c,m⟩:=wI (cells:=X.env.cells) (l:=scope.names) (acc:=[]) (n:=y) (.inl (mem_of_lookup e));have m':(y,c)∈zS X scope C:=by unfold zS;rw[yH];exact List.mem_append_right _ m
 obtain⟨c',e'⟩:=xB m';rcases zm ok h (mem_of_lookup e')with ⟨_,z⟩ | ⟨z,_⟩
 ·exact⟨c',e',z⟩
 ·rw[e]at z;cases z
theorem z0E{C:Addr}{y:Str}(e:scope.names.lookup y=some .cell):∃c,(zS X scope C).lookup y=some c:=Option.isSome_iff_exists.mp (W.cellsFrom_some _ _ _ (.inl e))
theorem ul(h:CompOk X.N X.env.scope scope xs N'){C:Addr}{y:Str}{k:NameKind}(e:(compEnvC scope (zS X scope C) C X.env).kindOf y=some k):
  (scope.names.lookup y=some k/\k≠.free)\/(scope.names.lookup y=some .free/\(k=.cell\/k=.free)):=by
 have e':(relabel scope X.env).names.lookup y=some k:=e;rw[yM]at e';cases q:scope.names.lookup y with
 | none=>rw[q]at e';cases e'
 | some j=>
  rw[q]at e';have e2:=Option.some.inj e';dsimp only at e2;by_cases hj:j=.free
  ·subst hj
   right
   refine⟨rfl,?_⟩;split at e2
   ·exact .inl e2.symm
   ·exact .inr e2.symm
  ·left
   have hb:(j == NameKind.free)=false:=by simpa using hj
   rw[hb]at e2;simp only[Bool.false_and,Bool.false_eq_true,if_false]at e2;subst e2;exact⟨rfl,hj⟩
theorem z6y(I:Inv X pins σ H s)(h:CompOk X.N X.env.scope scope xs N')(hf:∀b∈fp,FpOk X pins H b)(hob:∀b∈fp,∃o,s.heap.get? b=some o){g:Heap}{C:Nat}{tk:Nat}(hC:s.heap.objs.size<=C)
  (hk:∀b o,s.heap.get? b=some o->g.get? b=some o) (hn:∃m,g.Ns C m) (hcell:∀n c,(n,c)∈cellsFrom (C+1) scope.names []->g.IsCell c none) (hap:(cellsFrom (C+1) scope.names []).Pairwise fun p q=>p.2≠q.2) :
  Inv (zY X scope N' C s H fp) [] (σ++List.replicate xs.length none) H { s with heap:=g,toks:=tk }:=by
 have ok:=I.ok;have old:∀y (c:Nat),X.env.cells.lookup y=some c->c<s.heap.objs.size:=fun y c e=>let⟨_,z⟩:=I.cell y c e;z.lt
 have sub:∀b,b∈frs X.stack->b∉fp:=fun b hb z=>by
  have f:=hf b z;rcases List.mem_cons.mp (I.stkSub b hb)with e | e
  ·exact f.2.1 e
  ·exact f.2.2.1 e
 refine⟨⟨ok.mod,h.kind,ok.glob,ok.blt,hC,fun y z c e1 e2=>?_,fun y hy=>?_,fun y c hfn e=>?_,ok.hd,ok.frames,.inl rfl,fun b hb=>⟨?_,fun y c e=>?_⟩,I.bs,Nat.le_trans ok.bsz I.sz,fun b o e z=>?_,fun b z hb=>sub b hb z,I.stack,I.stkFree⟩,
  rfl,I.bare,Un.kept hk,?_,fun y c e=>?_,I.hok.fresh hC,fun y c e=>?_,fun p hp=>(nomatch hp),I.hok.kept hk,?_⟩
 ·
  have m1:(y,c)∈zS X scope C:=mem_of_lookup e1;have m2:(z,c)∈zS X scope C:=mem_of_lookup e2;rcases zm ok h m1 with ⟨a1,b1⟩ | ⟨a1,b1⟩<;>rcases zm ok h m2 with ⟨a2,b2⟩ | ⟨a2,b2⟩
  ·exact ok.inj y z c b1 b2
  ·have:=old y c b1;omega
  ·have:=old z c b2;omega
  ·unfold zS at m1 m2;rw[yH]at m1 m2;have new:∀{q:Str},(q,c)∈cellsFrom (C+1) scope.names []++yR X.env.cells scope.names []->scope.names.lookup q=some .cell->(q,c)∈cellsFrom (C+1) scope.names []:=fun{q} m a=>by
    rcases List.mem_append.mp m with m | m
    ·exact m
    ·rcases yw m with m | ⟨m,_⟩
     ·exact nomatch m
     ·rw[h.uniq _ m]at a;cases a
   exact name_of_addr hap (new m1 a1) (new m2 a2)
 ·have hy':(∃k,(compEnvC scope (zS X scope C) C X.env).kindOf y=some k/\(k=.cell\/k=.free)):=hy.elim (fun e=>⟨_,e,.inl rfl⟩) fun e=>⟨_,e,.inr rfl⟩;obtain⟨k,e,hk'⟩:=hy';rcases ul h e with ⟨e1,e2⟩ | ⟨e1,_⟩
  ·rcases hk' with rfl | rfl
   ·exact z0E e1
   ·exact absurd rfl e2
  ·obtain⟨c,e3,_⟩:=wB (C:=C) ok h e1;exact⟨c,e3⟩
 ·have hfn':scope.names.lookup y=some .cell:=beq_iff_eq.mp hfn;rcases zm ok h (mem_of_lookup (show(zS X scope C).lookup y=some c from e))with ⟨a,_⟩ | ⟨_,b⟩
  ·rw[hfn']at a;cases a
  ·show s.heap.objs.size<=c;omega
 ·obtain⟨o,e⟩:=hob b hb;exact Nat.ne_of_lt (Nat.lt_of_lt_of_le (Heap.lt_size e) hC)
 ·obtain⟨o,eo⟩:=hob b hb;rcases zm ok h (mem_of_lookup (show(zS X scope C).lookup y=some c from e))with ⟨_,q⟩ | ⟨_,q⟩
  ·exact(hf b hb).2.2.2.2.1 y c q
  ·exact Nat.ne_of_gt (Nat.lt_of_lt_of_le (Heap.lt_size eo) (Nat.le_trans hC (Nat.le_trans (Nat.le_succ _) q)))
 ·rcases(hf b z).2.2.2.1 with q | q
  ·exact ok.noex b o e q
  ·have q1:=Heap.lt_size e;exact absurd (Nat.lt_of_lt_of_le q1 (Nat.le_trans ok.bsz q)) (Nat.lt_irrefl _)
 ·
  obtain⟨m,hm⟩:=hn;obtain⟨m0,hn0,hl0⟩:=I.loc;refine⟨m,hm,fun i y v e1 e2 e3=>?_⟩;have hi:i<σ.length:=by
   by_cases hi:i<σ.length
   ·exact hi
   ·rw[List.getElem?_append_right (by omega),List.getElem?_replicate]at e2;split at e2<;>cases e2
  rw[List.getElem?_append_left hi]at e2;have e3':scope.names.lookup y≠none:=by
   have:∃k,(compEnvC scope (zS X scope C) C X.env).kindOf y=some k:=by
    rcases e3 with z | z | z
    ·exact⟨_,z⟩
    ·exact⟨_,z⟩
    ·exact⟨_,z⟩
   obtain⟨k,z⟩:=this;rcases ul h z with ⟨q,_⟩ | ⟨q,_⟩<;>(rw[q];simp)
  obtain⟨q1,q2⟩:=h.see i y (by rw[<-I.len];exact hi) e1 e3';have cap:=h.cap y (mem_of_lookup q1);have vis:Vis X.env.scope y:=cap.elim (fun z=>.inr (.inl z)) fun z=>.inr (.inr z);obtain⟨u,r,l⟩:=hl0 i y v q2 e2 vis;refine⟨u,r,.inr ?_⟩;obtain⟨c,z1,z2⟩:=wB (C:=C) ok h q1;have kd:∃k,(compEnvC scope (zS X scope C) C X.env).kindOf y=some k:=by
   rcases e3 with z | z | z
   ·exact⟨_,z⟩
   ·exact⟨_,z⟩
   ·exact⟨_,z⟩
  obtain⟨k,kz⟩:=kd;rcases l with ⟨l1,_⟩ | ⟨_,c',l2,l3⟩
  ·have l1':X.env.scope.names.lookup y=some .local:=l1;rcases cap with z | z<;>(rw[l1']at z;cases z)
  ·rw[z2]at l2;cases l2;refine⟨?_,c,z1,l3.keeps hk⟩;rcases ul h kz with ⟨q,_⟩ | ⟨_,q⟩
   ·rw[q1]at q;cases q;exact .inr kz
   ·rcases q with rfl | rfl
    ·exact .inl kz
    ·exact .inr kz
 ·have m1:(y,c)∈zS X scope C:=mem_of_lookup e;rcases zm ok h m1 with ⟨_,q⟩ | ⟨a,q⟩
  ·obtain⟨v,z⟩:=I.cell y c q;exact⟨v,z.keeps hk⟩
  ·unfold zS at m1;rw[yH]at m1;rcases List.mem_append.mp m1 with m1 | m1
   ·exact⟨none,hcell y c m1⟩
   ·rcases yw m1 with m | ⟨m,_⟩
    ·exact nomatch m
    ·rw[h.uniq _ m]at a;cases a
 ·rcases zm ok h (mem_of_lookup (show(zS X scope C).lookup y=some c from e))with ⟨_,q⟩ | ⟨_,q⟩
  ·exact I.freeC y c q
  ·exact I.hok.fresh (by omega)
 ·show(σ++List.replicate xs.length none).length=N'.length;rw[h.len,List.length_append,I.len,List.length_replicate]
noncomputable def tYes:TT:=fun _ H Q=>Q true H
def PF(X:Cx)(ifs:List Expr)(t:TT):Prop:=(ifs=[]/\t=tYes)\/∃c,ifs=[c]/\PT X c t
theorem wK:PF X [] tYes:=.inl ⟨rfl,rfl⟩
theorem z0F{c:Expr}{t:TT}(h:PT X c t):PF X [c] t:=.inr ⟨c,rfl,h⟩
structure CompW(J:It)(σ:St)(tc:TT)(te:TE)(n:Nat)(W:Nat->List V->Hp->Prop):Prop where
 small:n<=sizeLine
 stop:∀ys H,W n ys H->J.stop n H
 go:∀i ys H,i<n->W i ys H->J.go i H
 step:∀i ys H v H',i<n->W i ys H->J.yld i H v H'->tc (σ++[some v]) H' fun b H3=>if b=true then te (σ++[some v]) H3 fun y H4=>W (i+1) (ys++[y]) H4 else W (i+1) ys H3
structure CompWG(J:It)(σ:St)(g:TG)(m:Nat)(tc:TT)(te:TE)(n:Nat)(W:Nat->List V->Hp->Prop):Prop where
 small:n<=sizeLine
 stop:∀ys H,W n ys H->J.stop n H
 go:∀i ys H,i<n->W i ys H->J.go i H
 step:∀i ys H os v H',i<n->os.length=m->W i ys H->J.yld i H v H'->g v (σ++os) H' fun σ' H''=>∃os',os'.length=m/\σ'=σ++os'/\tc σ' H'' fun b H3=>if b=true then te σ' H3 fun y H4=>W (i+1) (ys++[y]) H4 else W (i+1) ys H3
theorem zB5{prog:Program}{w:World}{A:Around}{R:Result->Shared->Prop}{s:Shared}{elt target iter:Expr}{ifs:List Expr}{scope:Scope}{pos:Pos}{it acc:Value}{env:Env}(I:Nat->Shared->Prop)
  (turn:∀n s,I n s->wpAny (model prog w) A (pyNext it) (fun r s₁=>match r with
   | none=>R (.ok .next) s₁
   | some v=>wpAny (model prog w) A (letOwnedTupleGo target it v) (fun _ s₂'=>wpAny (model prog w) A (assign target env v) (fun _ s₂=>
     wpAny (model prog w) A (forIn ifs true fun c r=>if r=true then do let ok<-isTrue c env (eval c env);pure (ForInStep.yield ok)else pure (ForInStep.yield r)) (fun ok s₃=>
      if ok=true then wpAny (model prog w) A (eval elt env) (fun x s₄=>
       wpAny (model prog w) A (call (.builtin "list.append") [acc,x]) (fun _ s₅=>∃m,m<n/\I m s₅) (notedBy (model prog w) A env fun e s'=>R (.error e) s') s₄) (notedBy (model prog w) A env fun e s'=>R (.error e) s') s₃
      else ∃m,m<n/\I m s₃) (notedBy (model prog w) A env fun e s'=>R (.error e) s') s₂) (notedBy (model prog w) A env fun e s'=>R (.error e) s') s₂') (notedBy (model prog w) A env fun e s'=>R (.error e) s') s₁) (notedBy (model prog w) A env fun e s'=>R (.error e) s') s)
  (n:Nat) (h:I n s):codeAny (model prog w) A (.compLoop (.ListComp elt [⟨target,iter,ifs,0⟩] scope pos) 0 it acc env) R s:=by
 refine codeAny_loop rfl I (fun n s hI=>?_) n h;show wpAny _ A ((compTurn (.ListComp elt [⟨target,iter,ifs,0⟩] scope pos) 0 it acc env).onRaise (fun x=>do noteFrame x env;theTreesLotGoes x)) _ _ s;refine wpAny_noted ?_;rw[compTurn_list];refine wpAny_bind (wpAny_standAt (wpAny_bind (wpAny_mono (turn n s hI) (fun r s₁ h₁=>?_) fun _ _ h'=>h')));cases r with
 | none=>exact wpAny_pure h₁
 | some v=>
  refine wpAny_bind (wpAny_mono h₁ (fun _ _ h₁=>?_) fun _ _ h'=>h');refine wpAny_bind (wpAny_mono h₁ (fun _ s₂ h₂=>wpAny_bind (wpAny_mono h₂ (fun ok s₃ h₃=>?_) fun _ _ h'=>h')) fun _ _ h'=>h');cases ok with
  | false=>exact wpAny_pure ⟨rfl,h₃⟩
  | true=>
   exact wpAny_bind (wpAny_bind (wpAny_mono h₃ (fun x s₄ h₄=>wpAny_bind (wpAny_mono h₄ (fun _ s₅ h₅=>wpAny_pure (wpAny_pure ⟨rfl,h₅⟩)) fun _ _ h'=>h')) fun _ _ h'=>h'))
noncomputable abbrev yL(us:List Value)(n:Nat):Obj:={ cls:=.type "list",data:=.seq us.toArray n }
theorem z3m(σ:St)(o:Option V)(v:V):(σ++[o]).set σ.length (some v)=σ++[some v]:=by
 rw[List.set_append_right _ _ (Nat.le_refl _),Nat.sub_self];rfl
theorem uI(I:Inv X pins σ H s)(hf:∀b∈fp,FpOk X pins H b){C D:Nat}{H':Hp}{s':Shared}{σ':St}{pl:List (Addr×Obj)}{ys:List V}{us:List Value}{k:Nat}{g:Heap}(hCs:s.heap.objs.size<=C)(hDs:s.heap.objs.size<=D)(hCD:D≠C)
  (J:Inv (zY X scope N' C s H fp) pl σ' H' s') (hD:s'.heap.get? D=some (yL us k)) (hDn:H' D=none) (r:Vals ys us) (hl:ys.length<=sizeLine) (hg:Heap.SameBut C s'.heap g) :
  Inv X pins σ (upd H' D (.lst ys)) { s' with heap:=g }:=by
 have hCn:H' C=none:=J.free;have un:Un (frs X.stack) fp H H' s.heap s'.heap:=J.base;have ne:∀b o,s.heap.get? b=some o->b≠C/\b≠D:=fun b o e=>⟨Nat.ne_of_lt (Nat.lt_of_lt_of_le (Heap.lt_size e) hCs),Nat.ne_of_lt (Nat.lt_of_lt_of_le (Heap.lt_size e) hDs)⟩;have keep:∀b o,b≠C->s'.heap.get? b=some o->g.get? b=some o:=fun b o hb e=>(hg.2 b hb).trans e;refine I.call' (s':={ s' with heap:=g }) (ch:=fp) J.os ⟨fun b o e n hb hx=>?_,fun b o e n hb hx=>?_,fun b o e n hx=>?_,fun b o e hx=>?_,fun b xs e=>?_,fun b o u e=>?_,fun b ps e=>?_⟩ (fun b o e=>?_) J.bare fun b hb=>?_
 ·exact keep b o (ne b o e).1 (un.keep b o e n hb hx)
 ·obtain⟨sl,q⟩:=un.slot b o e n hb hx;exact⟨sl,keep b _ (ne b o e).1 q⟩
 ·rw[zI (ne b o e).2];exact un.free b o e n hx
 ·obtain⟨o',q⟩:=un.there b o e hx;exact⟨o',keep b o' (ne b o e).1 q⟩
 ·have q:=un.tups b xs e;rw[zI (zb q hDn)];exact q
 ·have q:=un.frzs b o u e;rw[zI (zb q hDn)];exact q
 ·obtain⟨more,q⟩:=un.tbls b ps e;exact⟨more,by rw[zI (zb q hDn)];exact q⟩
 ·by_cases hb:b=D
  ·subst hb;rw[zG]at e;cases e;exact⟨hl,us,k,r,keep _ _ hCD hD⟩
  ·rw[zI hb]at e;refine(J.hok b o e).stay (fun c v hc q=>keep c v ?_ q) (fun c q=>?_) fun c xs q=>?_
   ·rintro rfl;rcases hc with z | z
    ·rw[<-z,hCn]at e;cases e
    ·rw[hCn]at z;cases z
   ·rw[zI (zb q hDn)];exact q
   ·rw[zI (zb q hDn)];exact q
 ·have f:=hf b hb;exact⟨f.2.2.2.1,f.2.1,f.2.2.2.2.1,f.2.2.2.2.2⟩
theorem uM{elt iter:Expr}{ifs:List Expr}{pos:Pos}{tg:Expr}{g:TG}{tc:TT}{te:TE}{J:It}{it:Addr}{tn:Nat->Heap->Prop}{n:Nat}{W:Nat->List V->Hp->Prop}{RR:Value->Addr->Result->Shared->Prop}{E:Value->Shared->Prop}
  (h:CompOk X.N X.env.scope scope xs N') (hc:X.calm=true) (he:∀C fp,PE (zY X scope N' C s H fp) elt te) (hi:∀C fp,PF (zY X scope N' C s H fp) ifs tc) (hg:∀C fp,PG (zY X scope N' C s H fp) tg g)
  (I:Inv X pins σ H s) (T:Turn X.prog X.w X.K tg J fp it tn) (st:tn 0 s.heap) (hf:∀b∈fp,FpOk X pins H b) (w0:W 0 [] H) (CW:CompWG J σ g xs.length tc te n W)
  (hR:∀(C D:Nat) s' H' ys us k pl,s.heap.objs.size<=C->s.heap.objs.size<=D->D≠C->Inv (zY X scope N' C s H fp) pl (σ++List.replicate xs.length none) H' s'->s'.heap.get? D=some (yL us k)->H' D=none->Vals ys us->ys.length<=sizeLine->W n ys H'->RR (.ref D) C (.ok .next) s') :
  wpAny (model X.prog X.w) X.A (newList []) (fun acc s₃=>wpAny (model X.prog X.w) X.A (newFunctionEnv scope X.env.globals (yR X.env.cells scope.names []) [] X.env.qual none .none (some X.env)) (fun cenv s₄=>
   codeAny (model X.prog X.w) X.A (.compStart (.ListComp elt [⟨tg,iter,ifs,0⟩] scope pos) 0 (.ref it) acc { cenv with scope:=relabel scope X.env }) (RR acc cenv.locals) s₄) E s₃) E s:=by
 have hob:∀b∈fp,∃o,s.heap.get? b=some o:=fun b hb=>let⟨o,e,_⟩:=T.obj 0 _ st b hb;⟨o,e⟩
 refine wpAny_newList (items:=[]) ?_ (Nat.zero_le _);simp only[newFunctionEnv,Option.isSome_some,if_true];refine wpAny_bind (wpAny_alloc ?_);refine wpAny_bind (wpAny_layCells _ (fun name kind cells=>by cases hkc:kind == NameKind.cell<;>simp[hkc]) _ _ _ _ ?_);simp only[List.forIn_nil,pure_bind];refine wpAny_pure ?_;generalize hD:s.heap.objs.size=D;generalize hg1:s.heap.push { cls:=.type "list",data:=.seq ([]:List Value).toArray }=g1;have z1:g1.objs.size=D+1:=by rw[<-hg1,Heap.size_push,hD]
 generalize hg2:g1.push { cls:=.type "dict",data:=.dict #[] }=g2;have z2:g2.objs.size=D+2:=by rw[<-hg2,Heap.size_push,z1]
 have ok2:=cellsFrom_ok scope.names g2 (D+2) [] ⟨fun _ _ hm=>(nomatch hm),List.Pairwise.nil⟩ (Nat.le_of_eq z2.symm);dsimp only;rw[z2]at ok2;have keep1:∀b o,s.heap.get? b=some o->g1.get? b=some o:=fun b o e=>by rw[<-hg1];exact Heap.get?_push_of_some _ e
 have keep2:∀b o,g1.get? b=some o->(pushCells g2 scope.names).get? b=some o:=fun b o e=>pushCells_keeps _ _ b o (by rw[<-hg2];exact Heap.get?_push_of_some _ e);have hDobj:(pushCells g2 scope.names).get? D=some (yL [] 0):=keep2 _ _ (by rw[<-hg1,<-hD];exact Heap.get?_push_size _ rfl);have hns:(pushCells g2 scope.names).Ns (D+1) fun _=>none:=by
  have q:=(Heap.Ns.new g1 (.type "dict")).keeps (h':=pushCells g2 scope.names) fun b o e=>pushCells_keeps _ _ b o (by rw[<-hg2];exact e);rw[z1]at q;exact q
 have sC:s.heap.objs.size<=D+1:=by omega
 have sD:s.heap.objs.size<=D:=by omega
 have I4:∀tk,Inv (zY X scope N' (D+1) s H fp) [] (σ++List.replicate xs.length none) H { s with heap:=pushCells g2 scope.names,toks:=tk }:=fun tk=>
  z6y I h hf hob sC (fun b o e=>keep2 b o (keep1 b o e)) ⟨_,hns⟩ (fun n c m=>(ok2.empty n c m).1) ok2.apart
 have hfp:∀{H':Hp} {pl:List (Addr×Obj)},(∀b∈fp,H' b=none)->(∀b∈fp,∀p∈pl,p.1≠b)->∀b∈fp,FpOk (zY X scope N' (D+1) s H fp) pl H' b:=fun{H' pl} hn hp b hb=>by
  have e:=(I4 0).ok.exf b hb;exact⟨hn b hb,e.1,(I4 0).ok.exfs b hb,.inl hb,e.2,fun p hpp=>hp b hb p hpp⟩
 have bD:∀b∈fp,D≠b:=fun b hb=>by
  obtain⟨o,e⟩:=hob b hb;have z:=Heap.lt_size e;rw[hD]at z;exact Nat.ne_of_gt z
 have cD:∀y c,(compEnvC scope (zS X scope (D+1)) (D+1) X.env).cells.lookup y=some c->c≠D:=fun y c e z=>by
  obtain⟨v,q⟩:=(I4 0).cell y c e;obtain⟨o,q1,q2⟩:=q;rw[z]at q1
  have:some o=some (yL [] 0):=q1.symm.trans hDobj;cases this;cases q2
 have pinD:∀{pl:List (Addr×Obj)} {σ':St} {H':Hp} {s':Shared} {us:List Value} {k:Nat},Inv (zY X scope N' (D+1) s H fp) pl σ' H' s'->s'.heap.get? D=some (yL us k)->H' D=none->Inv (zY X scope N' (D+1) s H fp) [(D,yL us k)] σ' H' s':=fun{pl σ' H' s' us k} J e n=>
  J.pins_of fun p hp=>by
   have hp':p=(D,yL us k):=by simpa using hp
   subst hp';refine⟨e,n,by show D≠D+1;omega,fun z=>?_,fun v z=>by cases z⟩;obtain⟨_,o,q,_⟩:=(I4 0).ok.funs.mem z;have z':D<s.heap.objs.size:=Heap.lt_size q;rw[hD]at z';exact absurd z' (Nat.lt_irrefl _)
 have loop:∀tk,codeAny (model X.prog X.w) X.A (.compLoop (.ListComp elt [⟨tg,iter,ifs,0⟩] scope pos) 0 (.ref it) (.ref D) (compEnvC scope (zS X scope (D+1)) (D+1) X.env)) (RR (.ref D) (D+1)) { s with heap:=pushCells g2 scope.names,toks:=tk }:=by
  intro tk;refine zB5 (fun m s'=>∃i ys us k H' o,List.length o=xs.length/\m=n - i/\i<=n/\ys.length<=i/\Inv (zY X scope N' (D+1) s H fp) [(D,yL us k)] (σ++o) H' s'/\Vals ys us/\tn i s'.heap/\(∀b∈fp,H' b=none)/\W i ys H') ?_ n
   ⟨0,[],[],0,H,List.replicate xs.length none,List.length_replicate,rfl,Nat.zero_le _,Nat.le_refl _,pinD (I4 tk) hDobj (I.hok.fresh sD),.nil,T.keep 0 _ _ st fun b hb o e=>keep2 b o (keep1 b o e),fun b hb=>(hf b hb).1,w0⟩
  rintro m s1 ⟨i,ys,us,k,H1,o,ho,rfl,hi',hl,I1,rv,st1,fr1,w1⟩;have hpl:∀b∈fp,∀p∈[(D,yL us k)],p.1≠b:=fun b hb p hp=>by
   have hp':p=(D,yL us k):=by simpa using hp
   subst hp';exact bD b hb
  by_cases hlt:i<n
  ·refine wpAny_mono (T.item (zY X scope N' (D+1) s H fp) rfl rfl rfl hc i _ s1 (σ++o) H1 _ I1 (hfp fr1 hpl) st1 (CW.go i ys H1 hlt w1)) (fun r s2 ⟨u,hr,h4⟩=>?_) fun _ _ e=>e;subst hr;dsimp only;have fin:∀(v:V) (H2:Hp) (s3:Shared),Inv (zY X scope N' (D+1) s H fp) [(D,yL us k)] (σ++o) H2 s3->RelV v u->J.yld i H1 v H2->tn (i+1) s3.heap->(∀b∈fp,H2 b=none)->
     ∀E',wpAny (model X.prog X.w) X.A (assign tg (compEnvC scope (zS X scope (D+1)) (D+1) X.env) u) (fun _ s₂=>
      wpAny (model X.prog X.w) X.A (forIn ifs true fun c r=>if r=true then do let ok<-isTrue c (compEnvC scope (zS X scope (D+1)) (D+1) X.env) (eval c (compEnvC scope (zS X scope (D+1)) (D+1) X.env));pure (ForInStep.yield ok)else pure (ForInStep.yield r)) (fun okk s₃=>
       if okk=true then wpAny (model X.prog X.w) X.A (eval elt (compEnvC scope (zS X scope (D+1)) (D+1) X.env)) (fun y s₄=>
        wpAny (model X.prog X.w) X.A (call (.builtin "list.append") [.ref D,y]) (fun _ s₅=>∃m,m<n - i/\∃i ys us k H' o,List.length o=xs.length/\m=n - i/\i<=n/\ys.length<=i/\Inv (zY X scope N' (D+1) s H fp) [(D,yL us k)] (σ++o) H' s₅/\Vals ys us/\tn i s₅.heap/\(∀b∈fp,H' b=none)/\W i ys H') E' s₄) E' s₃
       else ∃m,m<n - i/\∃i ys us k H' o,List.length o=xs.length/\m=n - i/\i<=n/\ys.length<=i/\Inv (zY X scope N' (D+1) s H fp) [(D,yL us k)] (σ++o) H' s₃/\Vals ys us/\tn i s₃.heap/\(∀b∈fp,H' b=none)/\W i ys H') E' s₂) E' s3:=by
    intro v H2 s3 I2 ru y2 st2 fr2 E';have I2':=I2.pinned (hfp fr2 hpl) (T.obj _ _ st2);refine wpAny_mono (hg (D+1) fp _ s3 _ H2 v u _ I2' ru (CW.step i ys H1 o v _ hlt ho w1 y2)) (fun _ s4 ⟨σ4,H4,I4',e4⟩=>?_) fun _ _ z=>z.elim;obtain⟨o4,ho4,rfl,stp⟩:=e4;have kp:∀{s5:Shared} {H5:Hp},Inv (zY X scope N' (D+1) s H fp) ([(D,yL us k)]++z0P fp s3.heap) (σ++o4) H5 s5->(s5.heap.get? D=some (yL us k)/\H5 D=none)/\tn (i+1) s5.heap/\∀b∈fp,H5 b=none:=fun{s5 H5} J5=>by
     have pd:=J5.pin (D,yL us k) (List.mem_append_right _ (List.mem_append_left _ (by simp)));refine⟨⟨pd.1,pd.2.1⟩,T.keep _ _ _ st2 fun b hb ob e=>(J5.pin (b,ob) (List.mem_append_right _ (List.mem_append_right _ (xp hb e)))).1,fun b hb=>?_⟩;obtain⟨ob,e,_⟩:=T.obj _ _ st2 b hb;exact(J5.pin (b,ob) (List.mem_append_right _ (List.mem_append_right _ (xp hb e)))).2.1
    have aft:∀(b:Bool) (s5:Shared) (H5:Hp),Inv (zY X scope N' (D+1) s H fp) ([(D,yL us k)]++z0P fp s3.heap) (σ++o4) H5 s5->(if b=true then te (σ++o4) H5 fun y H4=>W (i+1) (ys++[y]) H4 else W (i+1) ys H5)->
      (if b=true then wpAny (model X.prog X.w) X.A (eval elt (compEnvC scope (zS X scope (D+1)) (D+1) X.env)) (fun y s₄=>
        wpAny (model X.prog X.w) X.A (call (.builtin "list.append") [.ref D,y]) (fun _ s₅=>∃m,m<n - i/\∃i ys us k H' o,List.length o=xs.length/\m=n - i/\i<=n/\ys.length<=i/\Inv (zY X scope N' (D+1) s H fp) [(D,yL us k)] (σ++o) H' s₅/\Vals ys us/\tn i s₅.heap/\(∀b∈fp,H' b=none)/\W i ys H') E' s₄) E' s5
       else ∃m,m<n - i/\∃i ys us k H' o,List.length o=xs.length/\m=n - i/\i<=n/\ys.length<=i/\Inv (zY X scope N' (D+1) s H fp) [(D,yL us k)] (σ++o) H' s5/\Vals ys us/\tn i s5.heap/\(∀b∈fp,H' b=none)/\W i ys H'):=by
     intro b s5 H5 I5 q5;cases b with
     | false=>
      rw[if_neg Bool.false_ne_true]at q5 |-;obtain⟨⟨d1,d2⟩,st5,fr5⟩:=kp I5;exact⟨n - (i+1),by omega,i+1,ys,us,k,H5,o4,ho4,rfl,hlt,by omega,pinD I5 d1 d2,rv,st5,fr5,q5⟩
     | true=>
      rw[if_pos rfl]at q5 |-;refine wpAny_mono (he (D+1) fp _ s5 _ H5 _ I5 q5) (fun y s6 ⟨w6,H6,I6,r6,q6⟩=>?_) fun _ _ z=>z.elim;obtain⟨⟨d1,d2⟩,st6,fr6⟩:=kp I6;refine append_at d1 (fun g' sb e'=>?_) (by rw[List.size_toArray,<-rv.length];exact Nat.le_trans hl (Nat.le_trans hi' CW.small));have e2:g'.get? D=some (yL (us++[y]) (k+1)):=by rw[e',List.push_toArray]
      have I7:Inv (zY X scope N' (D+1) s H fp) [] (σ++o4) H6 { s6 with heap:=g' }:=
       (I6.pins_of (pins':=[]) fun _ z=>nomatch z).turned (t':=s6.toks) (fun b ob hb e=>(sb.2 b hb).trans e) d2 (by show D≠D+1;omega) (.inr sD) cD fun p hp=>nomatch hp
      refine⟨n - (i+1),by omega,i+1,ys++[w6],us++[y],k+1,H6,o4,ho4,rfl,hlt,by rw[List.length_append];simp;omega,pinD I7 e2 d2,rv.append (.cons r6 .nil),T.keep _ _ _ st6 fun b hb ob e=>(sb.2 b (bD b hb).symm).trans e,fr6,q6⟩
    rcases hi (D+1) fp with ⟨rfl,rfl⟩ | ⟨c,rfl,pt⟩
    ·exact wpAny_tests_nil (aft true s4 _ I4' stp)
    ·exact wpAny_tests_one (wpAny_mono (pt _ s4 _ _ _ I4' stp) (fun b s5 ⟨H5,I5,q5⟩=>aft b s5 H5 I5 q5) fun _ _ z=>z.elim)
   exact wpAny_mono h4 (fun _ s3 ⟨v,H2,I2,ru,y2,st2,fr2⟩=>fin v H2 s3 I2 ru y2 st2 fr2 _) fun _ _ e=>e
  ·obtain rfl:i=n:=by omega
   refine wpAny_mono (T.done (zY X scope N' (D+1) s H fp) rfl rfl rfl hc i _ s1 (σ++o) H1 _ I1 (hfp fr1 hpl) st1 (CW.stop ys H1 w1)) (fun r s2 ⟨hr,I2⟩=>?_) fun _ _ e=>e;subst hr;have pd:=I2.pin (D,yL us k) (List.mem_append_right _ (by simp));refine hR (D+1) D s2 H1 ys us k _ sC sD (by omega) (I2.weak (σ':=σ++List.replicate xs.length none) (by simp[ho]) fun j v e=>?_) pd.1 pd.2.1 rv (Nat.le_trans hl CW.small) w1;by_cases hjl:j<σ.length
   ·rw[List.getElem?_append_left hjl]at e |-;exact e
   ·rw[List.getElem?_append_right (by omega),List.getElem?_replicate]at e;split at e<;>cases e
 have env_eq:∀l:Nat,l=D+1->({ scope:=relabel scope X.env,locals:=l,globals:=X.env.globals,cells:=cellsFrom (D+2) scope.names (yR X.env.cells scope.names []),qual:=X.env.qual,func:=none,code:=X.env.code,frame:=X.env.frame,builtins:=X.env.builtins }:Env)=compEnvC scope (zS X scope (D+1)) (D+1) X.env:=by
  rintro l rfl;rfl
 rw[z1,z2];refine codeAny_compStart_list ?_ (T.self _ 0 _ _ _ (T.keep 0 _ _ st fun b hb o e=>keep2 b o (keep1 b o e)) ?_)
 ·exact loop _
 ·exact loop _
theorem z4e{C:Addr}{px:Pos}(I:Inv X pins σ H s)(h:CompOk X.N X.env.scope scope [x] N'):PG (zY X scope N' C s H fp) (.Name x px) (z1G σ.length):=by
 have hx:=h.here;have e0:N'[X.N.length]?=some x:=by
  have:=congrArg (fun l=>l[0]?) hx;simpa using this
 refine yc h.nd (by rw[I.len];exact e0) ?_ ?_
 ·show(relabel scope X.env).names.lookup x=_\/_;rcases h.tgt x (by simp)with e | e
  ·left;rw[yM,e];rfl
  ·right
   show(relabel scope X.env).names.lookup x=_;rw[yM,e];rfl
 ·rcases h.tgt x (by simp)with e | e
  ·right
   show(relabel scope X.env).names.lookup x=_;rw[yM,e];rfl
  ·left
   show(scope.names.lookup x == some NameKind.cell)=true;rw[e];rfl
theorem CompW.gen{J:It}{tc:TT}{te:TE}{n:Nat}{W:Nat->List V->Hp->Prop}(h:CompW J σ tc te n W):CompWG J σ (z1G σ.length) [x].length tc te n W:=
 ⟨h.small,h.stop,h.go,fun i ys H os v H' hi ho w y=>by
  match os,ho with
  | [o],_=>exact⟨[some v],rfl,z3m _ _ _,by rw[z3m];exact h.step i ys H v H' hi w y⟩⟩
noncomputable def z51(wi:TI)(tc:TT)(te:TE):TE:=fun σ H Q=>wi σ H fun J H1=>∃(n:Nat) (W:Nat->List V->Hp->Prop),W 0 [] H1/\CompW J σ tc te n W/\∀ys H',W n ys H'->∀D,H' D=none->Q (.ref D) (upd H' D (.lst ys))
theorem uO(I:Inv X pins σ H s)(h:CompOk X.N X.env.scope scope xs N'):closureFor scope X.env=pure (yR X.env.cells scope.names []):=
 z7C fun n hn=>I.ok.has n (h.cap n hn)
theorem z9d{N:List Str}{sc:Scope}{elt iter:Expr}{ifs:List Expr}{px pos:Pos}{wi:TI}{tc:TT}{te:TE}(hc:X.calm=true)(hN:X.N=N)(hsc:X.env.scope=sc)(h:u9 N sc scope x N'=true)
  (hi:PI X (.Name x px) iter wi) (hf:∀C s H fp,PF (zY X scope N' C s H fp) ifs tc) (he:∀C s H fp,PE (zY X scope N' C s H fp) elt te)
  (hs:∀x,foldedSetIterable iter X.env x=pure x:=by intro _;rfl):PE X (.ListComp elt [⟨.Name x px,iter,ifs,0⟩] scope pos) (z51 wi tc te):=by
 intro pins s σ H Q I q;subst hN hsc;have ok:=CompOk.of h;rw[eval_ListComp];refine wpAny_comprehension_free (use:=none) rfl hs (uO I ok) ok.kind (fun y hy hl=>by rw[ok.uniq y hy,hl]) (thn (hi pins s σ H _ I q) fun v s1 h1=>thn h1 fun itv s2 h2=>?_);obtain⟨it,fp,tn,J,H2,e,I2,T,st2,f2,n,W,w0,CW,fin⟩:=h2;subst e;refine uM (RR:=fun acc C=>compPost (model X.prog X.w) X.A X.xe none (EP X pins σ Q) acc C) ok hc (fun C fp=>he C s2 H2 fp) (fun C fp=>hf C s2 H2 fp) (fun C fp=>z4e I2 ok) I2 T st2 f2 w0 CW.gen ?_;intro C D s' H' ys us k pl hCs hDs hDC J' hD hDn rv hl w;obtain⟨m,hm,_⟩:=J'.loc;exact⟨m,hm,fun g hg=>⟨.ref D,_,uI I2 f2 hCs hDs hDC J' hD hDn rv hl hg,rfl,fin ys H' w D hDn⟩⟩
theorem z2Y{scope:Scope}{env:Env}:∀y:Str,(scope.names.lookup y=some .cell\/scope.names.lookup y=some .free)->((relabel scope env).names.lookup y=some .cell\/(relabel scope env).names.lookup y=some .free):=by
 intro y h;rw[yM];rcases h with h | h
 ·rw[h];exact .inl rfl
 ·rw[h,Option.map_some];split
  ·exact .inl rfl
  ·exact .inr rfl
theorem z78{N:List Str}{sc:Scope}{elt iter:Expr}{ifs:List Expr}{px pos:Pos}{wi:TI}{tc:TT}{te:TE}(hc:X.calm=true)(hN:X.N=N)
  (hcap:∀y:Str,(sc.names.lookup y=some .cell\/sc.names.lookup y=some .free)->(X.env.scope.names.lookup y=some .cell\/X.env.scope.names.lookup y=some .free)) (h:u9 N sc scope x N'=true)
  (hi:PI X (.Name x px) iter wi) (hf:∀C s H fp,PF (zY X scope N' C s H fp) ifs tc) (he:∀C s H fp,PE (zY X scope N' C s H fp) elt te)
  (hs:∀x,foldedSetIterable iter X.env x=pure x:=by intro _;rfl):PE X (.ListComp elt [⟨.Name x px,iter,ifs,0⟩] scope pos) (z51 wi tc te):=by
 intro pins s σ H Q I q;subst hN;have ok0:=CompOk.of h;have ok:CompOk X.N X.env.scope scope [x] N':={ ok0 with cap:=fun y hy=>hcap y (ok0.cap y hy) };rw[eval_ListComp];refine wpAny_comprehension_free (use:=none) rfl hs (uO I ok) ok.kind (fun y hy hl=>by rw[ok.uniq y hy,hl]) (thn (hi pins s σ H _ I q) fun v s1 h1=>thn h1 fun itv s2 h2=>?_);obtain⟨it,fp,tn,J,H2,e,I2,T,st2,f2,n,W,w0,CW,fin⟩:=h2;subst e;refine uM (RR:=fun acc C=>compPost (model X.prog X.w) X.A X.xe none (EP X pins σ Q) acc C) ok hc (fun C fp=>he C s2 H2 fp) (fun C fp=>hf C s2 H2 fp) (fun C fp=>z4e I2 ok) I2 T st2 f2 w0 CW.gen ?_;intro C D s' H' ys us k pl hCs hDs hDC J' hD hDn rv hl w;obtain⟨m,hm,_⟩:=J'.loc;exact⟨m,hm,fun g hg=>⟨.ref D,_,uI I2 f2 hCs hDs hDC J' hD hDn rv hl hg,rfl,fin ys H' w D hDn⟩⟩
noncomputable def z82(i:Nat)(wi:TI)(tc:TT)(te:TE):TS:=fun D σ H=>z51 wi tc te σ H fun x H1=>D.nx (σ.set i (some x)) H1
theorem z2z{N:List Str}{sc:Scope}{elt iter:Expr}{ifs:List Expr}{y:Str}{i:Nat}{px py pos spos:Pos}{wi:TI}{tc:TT}{te:TE}(hc:X.calm=true)(hN:X.N=N)(hsc:X.env.scope=sc)(h:u9 N sc scope x N'=true)
  (hnd:X.N.Nodup) (hy:X.N[i]?=some y) (hl:X.env.scope.names.lookup y=some .local)
  (hi:PI X (.Name x px) iter wi) (hf:∀C s H fp,PF (zY X scope N' C s H fp) ifs tc) (he:∀C s H fp,PE (zY X scope N' C s H fp) elt te)
  (hsw:swapsWith (.ListComp elt [⟨.Name x px,iter,ifs,0⟩] scope pos) (some (.Name y py)) spos.line X.env=pure true:=by rfl)
  (hs:∀x,foldedSetIterable iter X.env x=pure x:=by intro _;rfl):PS X (.Assign [.Name y py] (.ListComp elt [⟨.Name x px,iter,ifs,0⟩] scope pos) spos) (z82 i wi tc te):=by
 intro pins s σ H D I q;subst hN hsc;have ok:=CompOk.of h;rw[exec_Assign_Name_used _ _ _ _ hsw];refine wpAny_bind (wpAny_standAt (wpAny_bind ?_));show wpAny _ X.A (do let _<-comprehension (.ListComp elt [⟨.Name x px,iter,ifs,0⟩] scope pos) scope X.env _ (newList []) false (eval iter X.env) (some (assign (.Name y py) X.env))) _ _ s;refine wpAny_bind (wpAny_mono (wpAny_comprehension_free (use:=some (assign (.Name y py) X.env)) (Q:=fun _ s'=>SP X pins D .next s') rfl hs (uO I ok) ok.kind (fun y hy hl=>by rw[ok.uniq y hy,hl]) (thn (hi pins s σ H _ I q) fun v s1 h1=>thn h1 fun itv s2 h2=>?_))
  (fun _ s' z=>wpAny_pure (wpAny_pure z)) fun _ _ e=>e)
 obtain⟨it,fp,tn,J,H2,e,I2,T,st2,f2,n,W,w0,CW,fin⟩:=h2;subst e;refine uM (RR:=fun acc C=>compPost (model X.prog X.w) X.A X.xe (some (assign (.Name y py) X.env)) (fun _ s'=>SP X pins D .next s') acc C) ok hc (fun C fp=>he C s2 H2 fp) (fun C fp=>hf C s2 H2 fp) (fun C fp=>z4e I2 ok) I2 T st2 f2 w0 CW.gen ?_;intro C D' s' H' ys us k pl hCs hDs hDC J' hD hDn rv hlen w;obtain⟨m,hm,_⟩:=J'.loc;have K1:Inv X pins σ (upd H' D' (.lst ys)) s':=uI (g:=s'.heap) I2 f2 hCs hDs hDC J' hD hDn rv hlen (.refl ..);have hCL:C≠X.env.locals:=Nat.ne_of_gt (Nat.lt_of_lt_of_le I2.lt hCs);have hcl:∀z c,X.env.cells.lookup z=some c->c≠C:=fun z c e=>by
  obtain⟨v,q⟩:=I2.cell z c e;exact Nat.ne_of_lt (Nat.lt_of_lt_of_le q.lt hCs)
 show wpAny (model X.prog X.w) X.A (assign (.Name y py) X.env (.ref D')) _ _ s';refine wpAny_assign_Name (z1L (v:=.ref D') K1 hnd hy (.inl hl) rfl (fun s'' K2 ch=>?_) (.inr hl));obtain⟨a,sb,ha⟩:=ch;have hCa:C≠a:=by
  rcases ha with rfl | ha
  ·exact hCL
  ·exact(hcl y a ha).symm
 refine⟨m,hm.sameBut sb hCa,fun g hg=>⟨_,_,K2.turned (t':=s''.toks) (it:=C) (fun b o hb e=>(hg.2 b hb).trans e) ?_ hCL (.inr (Nat.le_trans I2.sz hCs)) hcl fun p hp z=>?_,fin ys H' w D' hDn⟩⟩
 ·rw[zI hDC.symm];exact J'.free
 ·exact absurd (Nat.lt_of_lt_of_le (Heap.lt_size (I2.pin p hp).1) hCs) (by rw[z];exact Nat.lt_irrefl _)
end
theorem Vals.back:∀{xs:List V} {us:List Value} {i:Nat} {u:Value},Vals xs us->us[i]?=some u->∃x,xs[i]?=some x/\RelV x u
 | _,_,_,_,.nil,e=>by simp at e
 | _,_,0,_,.cons r _,e=>by simp at e;subst e;exact⟨_,rfl,r⟩
 | _,_,i+1,u,.cons _ t,e=>by
  obtain⟨x,h1,h2⟩:=Vals.back (i:=i) (u:=u) t (by simpa using e);exact⟨x,by simpa using h1,h2⟩
theorem z4m(bs:List Bool):((List.range bs.length).all fun i=>bs.getD i false)=bs.all id:=by
 rw[Bool.eq_iff_iff,List.all_eq_true,List.all_eq_true];constructor
 ·intro h b hb;obtain⟨i,hi,rfl⟩:=List.mem_iff_getElem.mp hb
  have:=h i (List.mem_range.mpr hi);simpa[List.getD_eq_getElem?_getD,hi]using this
 ·intro h i hi;have hi':=List.mem_range.mp hi
  have:=h bs[i] (List.getElem_mem hi');simpa[List.getD_eq_getElem?_getD,hi']using this
theorem z4f(bs:List Bool):((List.range bs.length).any fun i=>bs.getD i false)=bs.any id:=by
 rw[Bool.eq_iff_iff,List.any_eq_true,List.any_eq_true];constructor
 ·rintro⟨i,hi,h⟩;have hi':=List.mem_range.mp hi;refine⟨bs[i],List.getElem_mem hi',?_⟩;simpa[List.getD_eq_getElem?_getD,hi']using h
 ·rintro⟨b,hb,h⟩;obtain⟨i,hi,rfl⟩:=List.mem_iff_getElem.mp hb;exact⟨i,List.mem_range.mpr hi,by simpa[List.getD_eq_getElem?_getD,hi]using h⟩
section
variable{X:Cx}
theorem z35{bs:List Bool}{its:List Value}(rv:Vals (bs.map V.bl) its){i:Nat}{v:Value}(e:its.toArray[i]?=some v):v=.bool (bs.getD i false):=by
 obtain⟨x,e1,r⟩:=rv.back (u:=v) (i:=i) (by simpa using e);rw[List.getElem?_map]at e1;cases q:bs[i]? with
 | none=>rw[q]at e1;cases e1
 | some b=>
  rw[q]at e1;cases e1;rw[List.getD_eq_getElem?_getD,q];exact r
theorem z1N{xs:List V}{its:List Value}(rv:Vals xs its):its.toArray.size=xs.length:=by rw[List.size_toArray,rv.length]
theorem z6R(hc:X.calm=true):CallR X (.builtin "all") (fun xs H Q=>∃(p:Addr) (bs:List Bool),xs=[.ref p]/\SqL X.K H p (bs.map V.bl)/\Q (.bl (bs.all id)) H):=by
 intro pins s σ H xs us Q I r h;obtain⟨p,bs,rfl,hq,q⟩:=h;obtain⟨u,rfl,ru⟩:=xf r;cases ru;obtain⟨its,rv,pl,hz⟩:=I.list hq;have hlt:p<s.heap.objs.size:=by obtain⟨o,e,_⟩:=pl.isList;exact Heap.lt_size e
 refine call_all_walk (wpAny_pyIter_list pl.isList ⟨s.heap.objs.size,_,_,_,_,_,fun i=>bs.getD i false,rfl,Walks.list (A:=X.A.in1) (I.ok.hd hc) s.heap.objs.size p (Nat.ne_of_lt hlt) its.toArray,⟨⟨_,Heap.get?_push_size _ rfl,rfl,rfl⟩,pl.isList.push _⟩,?_,fun h' tk hk=>?_⟩)
 ·intro i v s' Q' E' hv hQ;rw[z35 rv hv];exact wpAny_truthy_bool hQ
 ·rw[z1N rv,List.length_map,z4m];exact⟨.bl _,H,I.kept (t':=tk) fun b o e=>hk b o (by simpa using Nat.ne_of_lt (Heap.lt_size e)) (Heap.get?_push_of_some _ e),rfl,q⟩
theorem z4v(hc:X.calm=true):CallR X (.builtin "any") (fun xs H Q=>∃(p:Addr) (bs:List Bool),xs=[.ref p]/\SqL X.K H p (bs.map V.bl)/\Q (.bl (bs.any id)) H):=by
 intro pins s σ H xs us Q I r h;obtain⟨p,bs,rfl,hq,q⟩:=h;obtain⟨u,rfl,ru⟩:=xf r;cases ru;obtain⟨its,rv,pl,hz⟩:=I.list hq;have hlt:p<s.heap.objs.size:=by obtain⟨o,e,_⟩:=pl.isList;exact Heap.lt_size e
 refine call_any_walk (wpAny_pyIter_list pl.isList ⟨s.heap.objs.size,_,_,_,_,_,fun i=>bs.getD i false,rfl,Walks.list (A:=X.A.in1) (I.ok.hd hc) s.heap.objs.size p (Nat.ne_of_lt hlt) its.toArray,⟨⟨_,Heap.get?_push_size _ rfl,rfl,rfl⟩,pl.isList.push _⟩,?_,fun h' tk hk=>?_⟩)
 ·intro i v s' Q' E' hv hQ;rw[z35 rv hv];exact wpAny_truthy_bool hQ
 ·rw[z1N rv,List.length_map,z4f];exact⟨.bl _,H,I.kept (t':=tk) fun b o e=>hk b o (by simpa using Nat.ne_of_lt (Heap.lt_size e)) (Heap.get?_push_of_some _ e),rfl,q⟩
theorem xC:CallR X (.builtin "isinstance") (fun xs H Q=>∃(x:V) (t:Value) (T:String) (b:Bool),xs=[x,.ty T]/\TyOf X.K H x t/\W.kitOne X.K t (.type T)=some b/\Q (.bl b) H):=by
 intro pins s σ H xs us Q I r h;obtain⟨x,t,T,b,rfl,ty,e,q⟩:=h;obtain⟨u,w',rfl,r1,r2⟩:=zCJ r;cases r2;exact z6l I r1 ty e fun tk=>⟨.bl b,H,I.tok tk,rfl,q⟩
theorem z7O(hu:X.A.units<cLine):OpR X (compareOp .Eq) (fun x y H Q=>∃(a b:Addr) (xs:List V),x=.ref a/\y=.ref b/\SqL X.K H a xs/\SqL X.K H b []/\Q (.bl xs.isEmpty) H):=by
 intro pins s σ H x y v u Q I rx ry h;obtain⟨a,b,xs,rfl,rfl,ha,hb,q⟩:=h;cases rx;cases ry;obtain⟨its,r1,p1,_⟩:=I.list ha;obtain⟨its2,r2,p2,_⟩:=I.list hb;have z2:its2.toArray.size=0:=z1N r2;cases xs with
 | nil=>
  have z1:its.toArray.size=0:=z1N r1;refine SeqAt.eq_listAt (e:=fun _=>true) p1.isList p2.isList (by rw[z1,z2]) hu (fun j h1 _=>by omega) ?_;rw[z1];exact⟨.bl true,H,I,rfl,q⟩
 | cons x r=>
  have z1:its.toArray.size=r.length+1:=z1N r1;exact SeqAt.eq_list_lengthsAt p1.isList p2.isList (by rw[z1,z2];rfl) hu ⟨.bl false,H,I,rfl,q⟩
end
end L2
namespace My
local macro_rules | `(tactic| omega)=>`(tactic| first | assumption | lia | omega +splitDisjunctions)
open PySem.W PyProof.Rows
noncomputable def Gives{α:Type}(f:Nat->Int)(N:Nat):KasT α->(α->Prop)->Prop
 | .ret a,Q=>Q a
 | .ask i j k,Q=>i<N/\j<N/\Gives f N (k (decide (f i<f j))) Q
theorem Gives.bind{α β:Type}{f:Nat->Int}{N:Nat}{g:α->KasT β}{Q:β->Prop}:∀{t:KasT α},Gives f N t (fun a=>Gives f N (g a) Q)->Gives f N (KasT.bind t g) Q
 | .ret _,h=>h
 | .ask _ _ k,h=>⟨h.1,h.2.1,Gives.bind (t:=k _) h.2.2⟩
theorem Gives.mono{α:Type}{f:Nat->Int}{N:Nat}{Q Q':α->Prop}(hq:∀a,Q a->Q' a):∀{t:KasT α},Gives f N t Q->Gives f N t Q'
 | .ret a,h=>hq a h
 | .ask _ _ k,h=>⟨h.1,h.2.1,Gives.mono hq (t:=k _) h.2.2⟩
def Bel(N:Nat)(p:Array Nat):Prop:=∀k,p.getD k 0<N
theorem Bel.perm{N:Nat}{p q:Array Nat}(h:Bel N p)(hq:q.Perm p):Bel N q:=fun k=>by
 rw[Array.getD_eq_getD_getElem?];cases e:q[k]? with
 | none=>exact Nat.lt_of_le_of_lt (Nat.zero_le _) (h 0)
 | some v=>
  have m:v∈p:=hq.mem_iff.mp (Array.mem_of_getElem? e);obtain⟨i,hi,rfl⟩:=Array.mem_iff_getElem.mp m
  have:=h i;rw[Array.getD_eq_getD_getElem?,Array.getElem?_eq_getElem hi]at this;exact this
section
variable{f:Nat->Int}{N:Nat}
noncomputable def at_(f:Nat->Int)(p:Array Nat)(k:Nat):Int:=f (p.getD k 0)
def Up(f:Nat->Int)(p:Array Nat)(n:Nat):Prop:=∀i,i+1<n->at_ f p i<=at_ f p (i+1)
def Down(f:Nat->Int)(p:Array Nat)(n:Nat):Prop:=∀i,i+1<n->at_ f p (i+1)<=at_ f p i
theorem Up.le{p:Array Nat}{n:Nat}(h:Up f p n):∀{i j:Nat},i<=j->j<n->at_ f p i<=at_ f p j:=by
  intro i j hij hj
  induction j with
  | zero => have : i = 0 := by omega
            subst this;exact Int.le_refl _
  | succ j ih=>
    by_cases e:i=j+1
    · subst e;exact Int.le_refl _
    · exact Int.le_trans (ih (by omega) (by omega)) (h j hj)
theorem ut{p q:Array Nat}{k l:Nat}(h:p[k]?=q[l]?):p.getD k 0=q.getD l 0:=by
 rw[Array.getD_eq_getD_getElem?,Array.getD_eq_getD_getElem?,h]
theorem z0U{p:Array Nat}{i j:Nat}(hj:j<=p.size)(k:Nat):at_ f (kas_rev p i j) k=if i<=k/\k<j then at_ f p (i+j - 1 - k)else at_ f p k:=by
 have e:=getElem?_mirror_all (i:=i) hj k;unfold at_ kas_rev;split at e
 next h=>rw[if_pos h,ut e]
 next h=>rw[if_neg h,ut e]
theorem z18(p:Array Nat)(i j:Nat):(kas_rev p i j).size=p.size:=mirror_size _ _ _ _
theorem yx(p:Array Nat)(i j:Nat):(kas_rev p i j).Perm p:=mirror_perm _ _ _ _
theorem z8Q{p:Array Nat}(hp:Bel N p):∀(fu n:Nat),1<=n->Up f p n->Gives f N (kas_asc p fu n) fun m=>n<=m/\m<=n+fu/\Up f p m
 | 0,n,_,h=>⟨Nat.le_refl _,Nat.le_refl _,h⟩
 | fu+1,n,h1,h=>by
  refine⟨hp _,hp _,?_⟩;show Gives f N (if decide (f (p.getD n 0)<f (p.getD (n - 1) 0))=true then _ else _) _;by_cases c:f (p.getD n 0)<f (p.getD (n - 1) 0)
  ·rw[if_pos (by simpa using c)];exact⟨Nat.le_refl _,by omega,h⟩
  ·rw[if_neg (by simpa using c)];refine(z8Q hp fu (n+1) (by omega) fun i hi=>?_).mono fun m ⟨a,b,c⟩=>⟨by omega,by omega,c⟩;by_cases e:i+1=n
   ·subst e;unfold at_
    have:i+1 - 1=i:=by omega
    rw[this]at c;omega
   ·exact h i (by omega)
theorem z0f:∀(fu:Nat) (p:Array Nat) (n q:Nat),Bel N p->q+1<=n->n+fu<=p.size->Down f p n->(∀k,n<=k+(q+1)->k<n->at_ f p k=at_ f p (n - 1))->
  Gives f N (kas_desc fu p n q) fun r=>r.1.Perm p/\n<=r.2.1/\r.2.1<=n+fu/\r.2.2+1<=r.2.1/\Down f r.1 r.2.1/\(∀k,r.2.1<=k+(r.2.2+1)->k<r.2.1->at_ f r.1 k=at_ f r.1 (r.2.1 - 1))
 | 0,p,n,q,hp,h1,h2,h3,h4=>⟨Array.Perm.refl _,Nat.le_refl _,Nat.le_refl _,h1,h3,h4⟩
 | fu+1,p,n,q,hp,h1,h2,h3,h4=>by
  refine⟨hp _,hp _,?_⟩;show Gives f N (if decide (f (p.getD n 0)<f (p.getD (n - 1) 0))=true then _ else _) _;have hn:n - 1+1=n:=by omega
  have single:∀(p':Array Nat) (k:Nat),n+1<=k+(0+1)->k<n+1->at_ f p' k=at_ f p' (n+1 - 1):=fun p' k a b=>by
   have:k=n:=by omega
   subst this;rfl
  by_cases c:f (p.getD n 0)<f (p.getD (n - 1) 0)
  ·rw[if_pos (by simpa using c)];have dn:Down f p (n+1):=fun i hi=>by
    by_cases e:i+1=n
    ·subst e
     have:i+1 - 1=i:=by omega
     rw[this]at c;unfold at_;omega
    ·exact h3 i (by omega)
   by_cases hq:q>0
   ·rw[if_pos hq];have same:∀k,at_ f (kas_rev p (n - (q+1)) n) k=at_ f p k:=fun k=>by
     rw[z0U (by omega)];split
     next h=>rw[h4 k (by omega) h.2,h4 _ (by omega) (by omega)]
     next=>rfl
    have z:=z0f fu (kas_rev p (n - (q+1)) n) (n+1) 0 (hp.perm (yx _ _ _)) (by omega) (by rw[z18];omega) (fun i hi=>by rw[same,same];exact dn i hi) (single _);exact z.mono fun r ⟨a1,a2,a3,a4,a5,a6⟩=>⟨a1.trans (yx _ _ _),by omega,by omega,a4,a5,a6⟩
   ·rw[if_neg hq];exact(z0f fu p (n+1) 0 hp (by omega) (by omega) dn (single _)).mono fun r ⟨a1,a2,a3,a4,a5,a6⟩=>⟨a1,by omega,by omega,a4,a5,a6⟩
  ·rw[if_neg (by simpa using c)];refine⟨hp _,hp _,?_⟩;show Gives f N (if decide (f (p.getD (n - 1) 0)<f (p.getD n 0))=true then _ else _) _;by_cases d:f (p.getD (n - 1) 0)<f (p.getD n 0)
   ·rw[if_pos (by simpa using d)];exact⟨Array.Perm.refl _,Nat.le_refl _,Nat.le_add_right _ _,h1,h3,h4⟩
   ·rw[if_neg (by simpa using d)];have e:at_ f p n=at_ f p (n - 1):=by unfold at_;omega
    refine(z0f fu p (n+1) (q+1) hp (by omega) (by omega) (fun i hi=>?_) fun k a b=>?_).mono fun r ⟨a1,a2,a3,a4,a5,a6⟩=>⟨a1,by omega,by omega,a4,a5,a6⟩
    ·by_cases e':i+1=n
     ·subst e';rw[e];exact Int.le_refl _
     ·exact h3 i (by omega)
    ·show at_ f p k=at_ f p n;by_cases e':k=n
     ·subst e';rfl
     ·rw[e];exact h4 k (by omega) (by omega)
theorem z6o{n nrem:Nat}{p:Array Nat}(hp:Bel N p)(h1:1<=n)(h2:n<=nrem)(h3:nrem<=p.size)(h:Down f p n):Gives f N (kas_tail3 n nrem p) fun r=>1<=r.1/\r.1<=nrem/\r.2.Perm p/\Up f r.2 r.1:=by
 refine Gives.bind ((z8Q (hp.perm (yx _ _ _)) (nrem - n) n h1 fun i hi=>?_).mono fun m ⟨a,b,c⟩=>⟨by omega,by show m<=nrem;omega,yx _ _ _,c⟩);rw[z0U (by omega),z0U (by omega),if_pos (by omega),if_pos (by omega)]
 have:=h (0+n - 1 - (i+1)) (by omega)
 rwa [show 0+n - 1 - (i+1)+1=0+n - 1 - i by omega]at this
theorem uf{n nrem:Nat}{p:Array Nat}(hp:Bel N p)(h1:1<=n)(h2:n<nrem)(h3:nrem<=p.size)(h:Down f p (n+1)):Gives f N (kas_descPart n nrem p) fun r=>1<=r.1/\r.1<=nrem/\r.2.Perm p/\Up f r.2 r.1:=by
 refine Gives.bind ((z0f (nrem - (n+1)) p (n+1) 0 hp (by omega) (by omega) h fun k a b=>(by have e:k=n:=(by omega);rw[e];rfl)).mono fun r ⟨a1,a2,a3,a4,a5,a6⟩=>?_);have sz:r.1.size=p.size:=a1.size_eq;show Gives f N (if r.2.2>0 then _ else _) _;by_cases hq:r.2.2>0
 ·rw[if_pos hq];have same:∀k,at_ f (kas_rev r.1 (r.2.1 - (r.2.2+1)) r.2.1) k=at_ f r.1 k:=fun k=>by
   rw[z0U (by omega)];split
   next h=>rw[a6 k (by omega) h.2,a6 _ (by omega) (by omega)]
   next=>rfl
  exact(z6o ((hp.perm a1).perm (yx _ _ _)) (by omega) (by omega) (by rw[z18];omega) fun i hi=>by rw[same,same];exact a5 i hi).mono fun z ⟨b1,b2,b3,b4⟩=>⟨b1,b2,(b3.trans (yx _ _ _)).trans a1,b4⟩
 ·rw[if_neg hq];exact(z6o (hp.perm a1) (by omega) (by omega) (by omega) a5).mono fun z ⟨b1,b2,b3,b4⟩=>⟨b1,b2,b3.trans a1,b4⟩
theorem z8I{nrem:Nat}{p:Array Nat}(hp:Bel N p)(h1:1<=nrem)(h3:nrem<=p.size):Gives f N (kas_count nrem p) fun r=>1<=r.1/\r.1<=nrem/\r.2.Perm p/\Up f r.2 r.1:=by
 refine Gives.bind ?_;have key:∀(fu n:Nat),1<=n->Up f p n->Gives f N (kas_asc p fu n) fun m=>n<=m/\m<=n+fu/\Up f p m/\(m<n+fu->at_ f p m<at_ f p (m - 1)):=by
  intro fu
  induction fu with
  | zero=>intro n _ h;exact⟨Nat.le_refl _,Nat.le_refl _,h,fun z=>by omega⟩
  | succ fu ih=>
   intro n h1 h;refine⟨hp _,hp _,?_⟩;show Gives f N (if decide (f (p.getD n 0)<f (p.getD (n - 1) 0))=true then _ else _) _;by_cases c:f (p.getD n 0)<f (p.getD (n - 1) 0)
   ·rw[if_pos (by simpa using c)];exact⟨Nat.le_refl _,by omega,h,fun _=>c⟩
   ·rw[if_neg (by simpa using c)];refine(ih (n+1) (by omega) fun i hi=>?_).mono fun m ⟨a,b,c,d⟩=>⟨by omega,by omega,c,fun z=>d (by omega)⟩;by_cases e:i+1=n
    ·subst e;unfold at_
     have:i+1 - 1=i:=by omega
     rw[this]at c;omega
    ·exact h i (by omega)
 refine(key (nrem - 1) 1 (Nat.le_refl _) fun i hi=>by omega).mono fun n ⟨a,b,c,d⟩=>?_;show Gives f N (if (n == nrem)=true then _ else _) _;by_cases e:n=nrem
 ·rw[if_pos (by simpa using e)];exact⟨a,by omega,Array.Perm.refl _,c⟩
 ·rw[if_neg (by simpa using e)];have lt:=d (by omega);by_cases hn:n>1
  ·rw[if_pos hn];refine⟨hp _,hp _,?_⟩;show Gives f N (if decide (f (p.getD 0 0)<f (p.getD (n - 1) 0))=true then _ else _) _;by_cases g:f (p.getD 0 0)<f (p.getD (n - 1) 0)
   ·rw[if_pos (by simpa using g)];exact⟨a,by omega,Array.Perm.refl _,c⟩
   ·rw[if_neg (by simpa using g)];have flat:∀k,k<n->at_ f p k=at_ f p (n - 1):=fun k hk=>by
     have l1:=c.le (Nat.zero_le k) hk;have l2:=c.le (show k<=n - 1 by omega) (by omega)
     have:at_ f p (n - 1)<=at_ f p 0:=by unfold at_;omega
     omega
    refine(uf (hp.perm (yx _ _ _)) a (by omega) (by rw[z18];omega) fun i hi=>?_).mono fun r ⟨b1,b2,b3,b4⟩=>⟨b1,b2,b3.trans (yx _ _ _),b4⟩;rw[z0U (by omega),z0U (by omega)];by_cases e1:i+1<n
    ·rw[if_pos (by omega),if_pos (by omega),flat (0+n - 1 - (i+1)) (by omega),flat (0+n - 1 - i) (by omega)];exact Int.le_refl _
    ·have:i+1=n:=by omega
     rw[if_neg (by omega),if_pos (by omega),flat (0+n - 1 - i) (by omega),this];omega
  ·rw[if_neg hn]
   have:n=1:=by omega
   subst this;refine uf hp a (by omega) h3 fun i hi=>?_
   have:i=0:=by omega
   subst this;exact Int.le_of_lt lt
theorem z0l{p:Array Nat}{k:Nat}(hp:Bel N p)(hu:Up f p k):∀(fu l r:Nat),l<=r->r<=k->r - l<=fu->(∀i,i<l->at_ f p i<=at_ f p k)->(∀i,r<=i->i<k->at_ f p k<at_ f p i)->
  Gives f N (kas_place p k fu l r) fun m=>m<=k/\(∀i,i<m->at_ f p i<=at_ f p k)/\(∀i,m<=i->i<k->at_ f p k<at_ f p i)
 | 0,l,r,h1,h2,h3,h4,h5=>by
  have:l=r:=by omega
  subst this;exact⟨h2,h4,h5⟩
 | fu+1,l,r,h1,h2,h3,h4,h5=>by
  unfold kas_place;by_cases e:l>=r
  ·rw[if_pos e]
   have:l=r:=by omega
   subst this;exact⟨h2,h4,h5⟩
  ·rw[if_neg e];refine⟨hp _,hp _,?_⟩;show Gives f N (if decide (f (p.getD k 0)<f (p.getD ((l+r) / 2) 0))=true then _ else _) _;by_cases c:f (p.getD k 0)<f (p.getD ((l+r) / 2) 0)
   ·rw[if_pos (by simpa using c)];refine z0l hp hu fu l ((l+r) / 2) (by omega) (by omega) (by omega) h4 fun i hi hk=>?_;exact Int.lt_of_lt_of_le (show at_ f p k<at_ f p ((l+r) / 2) from c) (hu.le hi hk)
   ·rw[if_neg (by simpa using c)];refine z0l hp hu fu ((l+r) / 2+1) r (by omega) h2 (by omega) (fun i hi=>?_) h5
    have:at_ f p ((l+r) / 2)<=at_ f p k:=by unfold at_;omega
    exact Int.le_trans (hu.le (show i<=(l+r) / 2 by omega) (by omega)) this
theorem z8i:∀(fu:Nat) (p:Array Nat) (k:Nat),Bel N p->1<=k->k+fu<=p.size->Up f p k->Gives f N (kas_bin fu p k) fun r=>r.Perm p/\Up f r (k+fu)
 | 0,p,k,_,_,_,h=>⟨Array.Perm.refl _,h⟩
 | fu+1,p,k,hp,h1,h2,h=>by
  refine Gives.bind ((z0l hp h k 0 k (Nat.zero_le _) (Nat.le_refl _) (by omega) (fun i hi=>by omega) fun i a b=>by omega).mono fun l ⟨a,b,c⟩=>?_);have get:∀j,at_ f (bubble p k (k - l)) j=if j=l then at_ f p k else if l<j/\j<=k then at_ f p (j - 1)else at_ f p j:=fun j=>by
   have e:=getElem?_bubble (xs:=p) (src:=k) (by omega) (k - l) (by omega) j;have kl:k - (k - l)=l:=by omega
   rw[kl]at e;unfold at_;split at e
   next h=>rw[if_pos h,ut e]
   next h=>
    rw[if_neg h];split at e
    next h'=>rw[if_pos h',ut e]
    next h'=>rw[if_neg h',ut e]
  have z:=z8i fu (bubble p k (k - l)) (k+1) (hp.perm (bubble_perm _ _ _)) (by omega) (by rw[bubble_size];omega) fun i hi=>by
   rw[get,get];by_cases e1:i=l
   ·subst e1;rw[if_pos rfl,if_neg (by omega)];by_cases e2:i<k
    ·rw[if_pos (by omega)]
     have:=c i (Nat.le_refl _) e2;simpa using Int.le_of_lt this
    ·have:i+1<=k:=by omega
     omega
   ·rw[if_neg e1];by_cases e2:i<l
    ·rw[if_neg (by omega)];by_cases e3:i+1=l
     ·rw[if_pos e3];exact b i e2
     ·rw[if_neg e3,if_neg (by omega)];exact h i (by omega)
    ·rw[if_pos (by omega),if_neg (by omega),if_pos (by omega)]
     have:=h (i - 1) (by omega)
     rwa [show i - 1+1=i+1 - 1 by omega]at this
  exact z.mono fun r ⟨q1,q2⟩=>⟨q1.trans (bubble_perm _ _ _),by rw[show k+(fu+1)=k+1+fu by omega];exact q2⟩
theorem sort_ok{n:Nat}(h2:1<=n):Gives f n (kas_sort n) fun r=>r.Perm (List.toArray (List.range n))/\Up f r n:=by
 have sz:(List.toArray (List.range n)).size=n:=by simp
 have hb:Bel n (List.toArray (List.range n)):=fun k=>by
  rw[Array.getD_eq_getD_getElem?];by_cases hk:k<n
  ·simp[hk]
  ·simp[hk];omega
 refine Gives.bind ((z8I hb h2 (by omega)).mono fun r ⟨a1,a2,a3,a4⟩=>?_);show Gives f n (if r.1<n then _ else _) _;by_cases e:r.1<n
 ·rw[if_pos e];have hm:max r.1 1=r.1:=by omega
  rw[hm];have z:=z8i (f:=f) (N:=n) (n - r.1) r.2 r.1 (hb.perm a3) a1 (by rw[a3.size_eq,sz];omega) a4;exact z.mono fun q ⟨q1,q2⟩=>⟨q1.trans a3,by rwa [show r.1+(n - r.1)=n by omega]at q2⟩
 ·rw[if_neg e]
  have:r.1=n:=by omega
  exact⟨a3,by rwa [this]at a4⟩
end
end My
namespace L2
open PySem PySem.Spec PyProof.Rows
section
variable{prog:Program}{w:World}{A:Around}{R:Result->Shared->Prop}
theorem z4S(hh:A.in1.handled=none){l I S:Addr}{vs:List Value}{g:Heap}{bt:Nat->Nat->Bool}(hlI:l≠I)(hlS:l≠S)(hSI:S≠I)(hl:g.IsList l vs.toArray)
  (cmp:∀i j vi vj (s:Shared) (Q:Value->Shared->Prop) (E:Value->Shared->Prop),vs[i]?=some vi->vs[j]?=some vj->(∀b o,b≠I->b≠S->g.get? b=some o->s.heap.get? b=some o)->Q (.bool (bt i j)) s->wpAny (model prog w) A.in1 (richCompare .Lt vi vj) Q E s) :
  ∀(k j:Nat) (s:Shared) (vb:Value) (c:Nat),vs.length - (j+1)=k->j+1<=vs.length->s.heap.IsListIter I l (j+1)->(∀b o,b≠I->b≠S->g.get? b=some o->s.heap.get? b=some o)->vs[argBest bt j]?=some vb->
  s.heap.get? S=some { cls:=.type "list",dict:=none,data:=.seq #[vb,vb] c,slots:=#[] }->
  (∀v h' tk,vs[argBest bt (vs.length - 1)]?=some v->(∀b o,b≠I->b≠S->g.get? b=some o->h'.get? b=some o)->R (.ok (.ret v)) { s with heap:=h',toks:=tk })->
  codeAny (model prog w) A (.builtin "min.loop" ⟨[.ref I,.none,.ref S],[]⟩) R s:=by
 have hname:(toString "min"++toString ".loop":String)="min.loop":=by decide
 have lis:∀{h:Heap},(∀b o,b≠I->b≠S->g.get? b=some o->h.get? b=some o)->h.IsList l vs.toArray:=fun{h} k=>by
  obtain⟨o,e,r⟩:=hl;exact⟨o,k l o hlI hlS e,r⟩
 intro k
 induction k with
 | zero=>
  intro j s vb c hk hj hit kp hv hS hR;have hin:j+1=vs.length:=by omega
  refine codeAny_builtin F.entry_min_loop ?_;rw[Around.under_plainId F.plain_min_loop _];show wpAny _ A.in1 (seqItems? (.ref S) >>= _) _ _ s;refine wpAny_bind (wpAny_seqItems hS rfl ?_);show wpAny _ A.in1 (tryCatch (pyNext (.ref I)) _ >>= _) _ _ s;refine wpAny_bind (wpAny_tryCatch (wpAny_pyNext_list_end hh hit (lis kp) (by simp;omega) fun h' eb=>?_));have hS':=eb S _ hSI hS;show wpAny _ A.in1 (updateSeq S (fun _=>#[]) >>= _) _ _ _;refine wpAny_bind ?_;refine wpAny_updateSeq hS' rfl (wpAny_bind (wpAny_letGo (wpAny_pure ?_)));exact hR vb _ s.toks (by rw[<-hin];exact hv) fun b o hI hS2 e=>(Heap.get?_update_other _ _ (Ne.symm hS2)).trans (eb b o hI (kp b o hI hS2 e))
 | succ k ih=>
  intro j s vb c hk hj hit kp hv hS hR;have hlt:j+1<vs.length:=by omega
  refine codeAny_builtin F.entry_min_loop ?_;rw[Around.under_plainId F.plain_min_loop _];show wpAny _ A.in1 (seqItems? (.ref S) >>= _) _ _ s;refine wpAny_bind (wpAny_seqItems hS rfl ?_);show wpAny _ A.in1 (tryCatch (pyNext (.ref I)) _ >>= _) _ _ s;refine wpAny_bind (wpAny_tryCatch (wpAny_pyNext_list_item (x:=vs[j+1]) hit (lis kp) (by simp[hlt]) fun h' hit' sb=>?_));have hS':h'.get? S=_:=(sb.2 S hSI).trans hS;have kp':∀b o,b≠I->b≠S->g.get? b=some o->h'.get? b=some o:=fun b o hI hS2 e=>(sb.2 b hI).trans (kp b o hI hS2 e);show wpAny _ A.in1 (tryCatch (holding [vs[j+1],vs[j+1]] (richCompare .Lt vs[j+1] vb >>= _)) _ >>= _) _ _ _;refine wpAny_bind (wpAny_tryCatch (wpAny_holding (wpAny_bind (cmp (j+1) (argBest bt j) _ vb _ _ _ (List.getElem?_eq_getElem hlt) hv kp' ?_))));refine wpAny_bind (wpAny_holding (wpAny_truthy_bool ?_));refine wpAny_bind (wpAny_letGo (wpAny_pure ?_));cases hb:bt (j+1) (argBest bt j)with
  | true=>
   simp only[if_true];refine wpAny_bind ?_;refine wpAny_updateSeq hS' rfl (wpAny_bind (wpAny_letGo ?_));rw[hname];have kp2:∀b o,b≠I->b≠S->g.get? b=some o->(h'.update S (Obj.mapSeq fun _=>#[vs[j+1],vs[j+1]])).get? b=some o:=fun b o hI hS2 e=>(Heap.get?_update_other _ _ (Ne.symm hS2)).trans (kp' b o hI hS2 e);refine wpAny_pure ⟨plainId_quiet F.plain_min_loop _,ih (j+1) _ vs[j+1] _ (by omega) hlt ?_ kp2 (by simp only[argBest,hb,if_true];exact List.getElem?_eq_getElem hlt) (Heap.get?_update_self _ hS' rfl) fun v h2 tk hv2 k2=>hR v h2 tk hv2 k2⟩;obtain⟨oi,e1,e2⟩:=hit';exact⟨oi,(Heap.get?_update_other _ _ hSI).trans e1,e2⟩
  | false=>
   simp only[Bool.false_eq_true,if_false];refine wpAny_bind (wpAny_letGo ?_);rw[hname];exact wpAny_pure ⟨plainId_quiet F.plain_min_loop _,ih (j+1) _ vb c (by omega) hlt hit' kp' (by simp only[argBest,hb,Bool.false_eq_true,if_false];exact hv) hS' fun v h2 tk hv2 k2=>hR v h2 tk hv2 k2⟩
theorem z87{E:Value->Shared->Prop}{s:Shared}{Q:Value->Shared->Prop}(hh:A.in1.handled=none){l:Addr}{vs:List Value}{bt:Nat->Nat->Bool}(hl:s.heap.IsList l vs.toArray)(hn:0<vs.length)
  (cmp:∀i j vi vj (s':Shared) (Q:Value->Shared->Prop) (E:Value->Shared->Prop),vs[i]?=some vi->vs[j]?=some vj->(∀b o,s.heap.get? b=some o->s'.heap.get? b=some o)->Q (.bool (bt i j)) s'->wpAny (model prog w) A.in1 (richCompare .Lt vi vj) Q E s')
  (h:∀v h' tk,vs[argBest bt (vs.length - 1)]?=some v->(∀b o,s.heap.get? b=some o->h'.get? b=some o)->Q v { s with heap:=h',toks:=tk }) :
  wpAny (model prog w) A (call (.builtin "min") [.ref l]) Q E s:=by
 have hname:(toString "min"++toString ".loop":String)="min.loop":=by decide
 have hlt:l<s.heap.objs.size:=by obtain⟨o,e,_⟩:=hl;exact Heap.lt_size e
 refine call_function_tree F.kind_min F.plain_min F.entry_min (F.args_min1 _) ?_;show wpAny _ A.in1 (Builtin.Builtins.bindParams "min" ["key","default"] 0 ⟨[],[]⟩ >>= _) _ _ s;refine wpAny_bind (wpAny_of_eq (show Builtin.Builtins.bindParams "min" ["key","default"] 0 ⟨[],[]⟩=pure [none,none] from rfl) ?_);refine wpAny_bind (wpAny_pure ?_);refine wpAny_bind (wpAny_pyIter_list hl ?_);refine wpAny_bind (wpAny_newObj_type ?_);rw[hname];generalize hg1:s.heap.push { cls:=.type "list_iterator",data:=.fields #[.ref l,.int 0 0] }=g1;have z1:g1.objs.size=s.heap.objs.size+1:=by rw[<-hg1,Heap.size_push]
 have k1:∀b o,s.heap.get? b=some o->g1.get? b=some o:=fun b o e=>by rw[<-hg1];exact Heap.get?_push_of_some _ e
 have hit:g1.IsListIter s.heap.objs.size l 0:=⟨_,by rw[<-hg1];exact Heap.get?_push_size _ rfl,rfl,rfl⟩;have ne:∀b o,s.heap.get? b=some o->b≠s.heap.objs.size/\b≠g1.objs.size:=fun b o e=>by
  have:=Heap.lt_size e;exact⟨Nat.ne_of_lt this,Nat.ne_of_lt (by rw[z1];exact Nat.lt_succ_of_lt this)⟩
 have hl1:g1.IsList l vs.toArray:=by obtain⟨o,e,r⟩:=hl;exact⟨o,k1 _ _ e,r⟩
 refine wpAny_pure ⟨plainId_quiet F.plain_min_loop _,?_⟩;refine codeAny_builtin F.entry_min_loop ?_;rw[Around.under_plainId F.plain_min_loop _];show wpAny _ A.in1 (seqItems? (.ref g1.objs.size) >>= _) _ _ _;have hS0:(g1.push { cls:=.type "list",data:=.seq #[] }).get? g1.objs.size=some { cls:=.type "list",data:=.seq #[] }:=Heap.get?_push_size _ rfl;refine wpAny_bind (wpAny_seqItems hS0 rfl ?_);show wpAny _ A.in1 (tryCatch (pyNext (.ref s.heap.objs.size)) _ >>= _) _ _ _;have hitP:(g1.push { cls:=.type "list",data:=.seq #[] }).IsListIter s.heap.objs.size l 0:=by obtain⟨o,e,r⟩:=hit;exact⟨o,Heap.get?_push_of_some _ e,r⟩
 have hlP:(g1.push { cls:=.type "list",data:=.seq #[] }).IsList l vs.toArray:=by obtain⟨o,e,r⟩:=hl1;exact⟨o,Heap.get?_push_of_some _ e,r⟩
 have hSI:g1.objs.size≠s.heap.objs.size:=by rw[z1];omega
 refine wpAny_bind (wpAny_tryCatch (wpAny_pyNext_list_item (x:=vs[0]) hitP hlP (by simp[hn]) fun h' hit' sb=>?_));have hS':h'.get? g1.objs.size=_:=(sb.2 _ hSI).trans hS0;show wpAny _ A.in1 (updateSeq g1.objs.size (fun _=>#[vs[0],vs[0]]) >>= _) _ _ _;refine wpAny_bind ?_;refine wpAny_updateSeq hS' rfl ?_;rw[hname];have kp:∀b o,b≠s.heap.objs.size->b≠g1.objs.size->s.heap.get? b=some o->(h'.update g1.objs.size (Obj.mapSeq fun _=>#[vs[0],vs[0]])).get? b=some o:=fun b o hI hS2 e=>
  (Heap.get?_update_other _ _ (Ne.symm hS2)).trans ((sb.2 b hI).trans (Heap.get?_push_of_some _ (k1 b o e)))
 refine wpAny_pure ⟨plainId_quiet F.plain_min_loop _,z4S (g:=s.heap) (bt:=bt) (vs:=vs) hh (Nat.ne_of_lt hlt) (Nat.ne_of_lt (by rw[z1];exact Nat.lt_succ_of_lt hlt)) hSI hl (fun i j vi vj s' Q' E' e1 e2 k' hq=>cmp i j vi vj s' Q' E' e1 e2 (fun b o e=>k' b o (ne b o e).1 (ne b o e).2 e) hq)
  _ 0 _ vs[0] _ rfl hn ?_ kp (List.getElem?_eq_getElem hn) (Heap.get?_update_self _ hS' rfl) fun v h2 tk hv k2=>h v h2 tk hv fun b o e=>k2 b o (ne b o e).1 (ne b o e).2 e⟩
 obtain⟨oi,e1,e2⟩:=hit';exact⟨oi,(Heap.get?_update_other _ _ hSI).trans e1,e2⟩
end
section
variable{X:Cx}
end
open PySem.W (KasT kas_sort kas_ask kat_run kat_snds kat_kind kat_lt KatTups KatLex kat_nil kat_cons kat_go kat_yes kat_no kat_one kat_lt_int)
theorem z3j{α:Type}{N:Nat}{f:Nat->Int}{cmp:Nat->Nat->(Bool->Shared->Prop)->Shared->Prop}{Q:α->Shared->Prop}{s:Shared}(hc:∀i j C,i<N->j<N->C (decide (f i<f j)) s->cmp i j C s):
  ∀{t:KasT α},My.Gives f N t (fun a=>Q a s)->t.kasWp cmp Q s
 | .ret _,h=>h
 | .ask i j k,h=>hc i j _ h.1 h.2.1 (z3j hc h.2.2)
noncomputable abbrev z2o(vs:List Value)(p:Array Nat):Array Value:=List.toArray (p.toList.map fun i=>vs.getD i Value.none)
section
variable{prog:Program}{w:World}{A:Around}{E:Value->Shared->Prop}{s:Shared}
theorem zD8{a:Addr}{vs:List Value}{n:Nat}{P:PySem.Fin->Shared->Prop}{f:Nat->Int}{κ:SortKind}(ho:s.heap.get? a=some (seqObj "list" vs.toArray n))(h64:vs.length<64)
  (kind:∀(s':Shared) (Q:SortKind->Shared->Prop) (E:Value->Shared->Prop),2<=vs.length->(∀b o,b≠a->s.heap.get? b=some o->s'.heap.get? b=some o)->Q κ s'->wpAny (model prog w) A (keyKind' vs.toArray) Q E s')
  (cmp:∀(i j:Nat) (s':Shared) (Q:Bool->Shared->Prop) (E:Value->Shared->Prop),i<vs.length->j<vs.length->(∀b o,b≠a->s.heap.get? b=some o->s'.heap.get? b=some o)->Q (decide (f i<f j)) s'->wpAny (model prog w) A (keyLt' κ (vs.getD i Value.none) (vs.getD j Value.none)) Q E s')
  (h:∀p:Array Nat,p.Perm (List.toArray (List.range vs.length))->My.Up f p vs.length->P (.done (.ret .none)) { s with heap:=sortedHeap s.heap a vs (z2o vs p) }) :
  wpAny (model prog w) A (Builtin.«list.sort» ⟨[.ref a],[]⟩) P E s:=by
 rw[list_sort_plain];have ha:a<s.heap.objs.size:=Heap.lt_size ho;refine wpAny_bind (listItems_at ho rfl ?_);refine wpAny_bind (listUpdate_at ho rfl ?_ (by rw[List.size_toArray,sizeLine_eq];omega) (Nat.zero_le _));obtain⟨e1,ho1⟩:∃e1,(s.heap.update a (Obj.mapSeq fun _=>(#[]:Array Value))).get? a=some (seqObj "list" #[] e1):=⟨_,get?_update_seq ho (fun _=>#[])⟩;refine wpAny_bind (seqEpoch_at ho1 rfl ?_);refine wpAny_bind (wpAny_newTuple ?_ (by rw[sizeLine_eq];show vs.toArray.toList.length<=_;simp;omega));refine wpAny_bind (wpAny_newList ?_ (Nat.zero_le _));refine wpAny_holding ?_;have ho6:(((s.heap.update a (Obj.mapSeq fun _=>#[])).push (seqObj "tuple" vs.toArray 0)).push (seqObj "list" #[] 0)).get? a=some (seqObj "list" #[] e1):=
  Heap.get?_push_of_some _ (Heap.get?_push_of_some _ ho1)
 have kp:∀b o,b≠a->s.heap.get? b=some o->(((s.heap.update a (Obj.mapSeq fun _=>#[])).push (seqObj "tuple" vs.toArray 0)).push (seqObj "list" #[] 0)).get? b=some o:=fun b o hb e=>
  Heap.get?_push_of_some _ (Heap.get?_push_of_some _ ((Heap.get?_update_other _ _ (Ne.symm hb)).trans e))
 show wpAny (model prog w) A _ P E { s with heap:=((s.heap.update a (Obj.mapSeq fun _=>#[])).push (seqObj "tuple" vs.toArray 0)).push (seqObj "list" #[] 0) };dsimp only;have hsz:vs.toArray.size=vs.length:=by simp
 by_cases h2:vs.toArray.size<2
 ·rw[if_pos h2,if_pos h2];refine wpAny_bind (wpAny_pure ?_);rw[StateT.run_pure];refine wpAny_bind (wpAny_pure ?_);dsimp only;have out:(arrOf (SortSt.mk' general' (vs.toArray.zip vs.toArray) #[] 7 none)).map (·.2)=z2o vs (List.toArray (List.range vs.length)):=by
   have z1:((vs.toArray.zip vs.toArray).map (·.2))=vs.toArray:=by
    apply Array.toList_inj.mp;simp[List.map_snd_zip]
   have z2:z2o vs (List.toArray (List.range vs.length))=vs.toArray:=by
    apply Array.toList_inj.mp;refine List.ext_getElem (by simp) fun i a b=>?_;have b':i<vs.length:=by simpa using b
    simp[b']
   rw[z2];exact z1
  refine wpAny_bind (seqEpoch_at ho6 rfl ?_);rw[out];refine wpAny_bind (listUpdate_at ho6 rfl ?_ (Nat.zero_le _) (by rw[List.size_toArray,List.length_map,sizeLine_eq];simp;omega));simp only[bne_self_eq_false,Bool.false_eq_true,if_false];exact wpAny_pure (h _ (Array.Perm.refl _) fun i hi=>by omega)
 ·rw[if_neg h2,if_neg h2];have h2':2<=vs.length:=by omega
  refine wpAny_bind (kind _ _ _ h2' kp ?_);refine wpAny_bind (wpAny_mono (kat_run (E:=E) (κ:=κ) (ks:=vs) (Q:=fun st' s'=>s'={ s with heap:=((s.heap.update a (Obj.mapSeq fun _=>#[])).push (seqObj "tuple" vs.toArray 0)).push (seqObj "list" #[] 0) }/\failedOf st'=none/\∃p:Array Nat,p.Perm (List.toArray (List.range vs.length))/\My.Up f p vs.length/\(arrOf st').map (·.2)=z2o vs p)
   (G:=fun p s'=>s'={ s with heap:=((s.heap.update a (Obj.mapSeq fun _=>#[])).push (seqObj "tuple" vs.toArray 0)).push (seqObj "list" #[] 0) }/\p.Perm (List.toArray (List.range vs.length))/\My.Up f p vs.length) rfl h2' h64
   (fun p st' s' _ har hf ⟨g1,g2,g3⟩=>⟨g1,hf,p,g2,g3,kat_snds rfl har⟩)
   (z3j (N:=vs.length) (f:=f) (fun i j C hi hj hC=>cmp i j _ C _ hi hj kp hC) ((My.sort_ok (by omega)).mono fun p hp=>⟨rfl,hp⟩))) ?_ fun _ _ e=>e)
  rintro⟨⟨⟩,st'⟩ s' ⟨rfl,hf,p,hp,hup,out⟩;dsimp only at hf out |-;refine wpAny_bind (seqEpoch_at ho6 rfl ?_);rw[out];refine wpAny_bind (listUpdate_at ho6 rfl ?_ (Nat.zero_le _) (by rw[List.size_toArray,List.length_map,Array.length_toList,hp.size_eq,sizeLine_eq];simp;omega));rw[hf];simp only[bne_self_eq_false,Bool.false_eq_true,if_false];exact wpAny_pure (h p hp hup)
end
section
variable{X:Cx}
end
mutual
noncomputable def DatV(H:Hp):PyData->V->Prop
 | .none,v=>v=.non
 | .bool b,v=>v=.bl b
 | .int i,v=>v=.int i
 | .str x,v=>v=.str x
 | .list ds,v=>∃a xs,v=.ref a/\H a=some (.lst xs)/\DatAll H ds xs
 | .tuple ds,v=>∃a xs,v=.ref a/\H a=some (.tup xs)/\DatAll H ds xs
 | .dict _,_=>False
noncomputable def DatAll(H:Hp):List PyData->List V->Prop
 | [],xs=>xs=[]
 | d::ds,xs=>∃x r,xs=x::r/\DatV H d x/\DatAll H ds r
end
mutual
theorem DatV.same{H H':Hp}(s:∀b o,H b=some o->H' b=some o):∀{d:PyData} {v:V},DatV H d v->DatV H' d v
 | .none,_,h=>by simp only[DatV]at h |-;exact h
 | .bool _,_,h=>by simp only[DatV]at h |-;exact h
 | .int _,_,h=>by simp only[DatV]at h |-;exact h
 | .str _,_,h=>by simp only[DatV]at h |-;exact h
 | .list _,_,h=>by
  simp only[DatV]at h |-;obtain⟨a,xs,e,h1,h2⟩:=h;exact⟨a,xs,e,s _ _ h1,DatAll.same s h2⟩
 | .tuple _,_,h=>by
  simp only[DatV]at h |-;obtain⟨a,xs,e,h1,h2⟩:=h;exact⟨a,xs,e,s _ _ h1,DatAll.same s h2⟩
 | .dict _,_,h=>by simp only[DatV]at h
theorem DatAll.same{H H':Hp}(s:∀b o,H b=some o->H' b=some o):∀{ds:List PyData} {xs:List V},DatAll H ds xs->DatAll H' ds xs
 | [],_,h=>by simp only[DatAll]at h |-;exact h
 | _::_,_,h=>by
  simp only[DatAll]at h |-;obtain⟨x,r,e,h1,h2⟩:=h;exact⟨x,r,e,DatV.same s h1,DatAll.same s h2⟩
end
mutual
theorem DatV.reads{P:Program}{w:World}{H:Hp}{h:Heap}(ok:HOk P w H h):∀{d:PyData} {v:V} {u:Value},DatV H d v->RelV v u->∃as,Reads h u d as
 | .none,_,_,e,r=>by simp only[DatV]at e;subst e;cases r;exact⟨_,.none⟩
 | .bool _,_,_,e,r=>by simp only[DatV]at e;subst e;cases r;exact⟨_,.bool _⟩
 | .int _,_,_,e,r=>by simp only[DatV]at e;subst e;obtain⟨t,rfl⟩:=r;exact⟨_,.int _ _⟩
 | .str _,_,_,e,r=>by simp only[DatV]at e;subst e;obtain⟨t,rfl⟩:=r;exact⟨_,.str _ _⟩
 | .list ds,_,_,e,r=>by
  simp only[DatV]at e;obtain⟨a,xs,rfl,h1,h2⟩:=e;cases r;obtain⟨_,its,n,rv,g⟩:=(show ObjOk P w H h a (.lst xs) from ok a _ h1);obtain⟨as,ra⟩:=DatAll.reads ok h2 rv;exact⟨_,.list g rfl rfl (by simpa using ra)⟩
 | .tuple ds,_,_,e,r=>by
  simp only[DatV]at e;obtain⟨a,xs,rfl,h1,h2⟩:=e;cases r;obtain⟨_,its,rv,o,g1,g2,n,g3⟩:=(show ObjOk P w H h a (.tup xs) from ok a _ h1);obtain⟨as,ra⟩:=DatAll.reads ok h2 rv;exact⟨_,.tuple g1 g2 g3 (by simpa using ra)⟩
 | .dict _,_,_,e,_=>by simp only[DatV]at e
theorem DatAll.reads{P:Program}{w:World}{H:Hp}{h:Heap}(ok:HOk P w H h):∀{ds:List PyData} {xs:List V} {us:List Value},DatAll H ds xs->Vals xs us->∃as,ReadsAll h us ds as
 | [],_,_,e,r=>by simp only[DatAll]at e;subst e;cases r;exact⟨_,.nil⟩
 | d::ds,_,_,e,r=>by
  simp only[DatAll]at e;obtain⟨x,r',rfl,h1,h2⟩:=e;cases r with
  | cons r1 r2=>
   obtain⟨as,ra⟩:=DatV.reads ok h1 r1;obtain⟨bs,rb⟩:=DatAll.reads ok h2 r2;exact⟨_,.cons ra rb⟩
end
section
variable{X:Cx}
noncomputable def rEqD(neg:Bool):R2:=fun x y H Q=>∃d e,DatV H d x/\DatV H e y/\d.canLay0=true/\e.canLay0=true/\min d.depth e.depth<=60/\Q (.bl (if neg then !PyData.eqv d e else PyData.eqv d e)) H
theorem zBT(hu:X.A.units+64<cLine):OpR X (compareOp .Eq) (rEqD false):=by
 intro pins s σ H x y v u Q I rx ry h;obtain⟨d,e,h1,h2,c1,c2,hd,q⟩:=h;obtain⟨as,r1⟩:=DatV.reads I.hok h1 rx;obtain⟨bs,r2⟩:=DatV.reads I.hok h2 ry;exact SeqAt.compareEq_reads r1 r2 c1 c2 (by omega) ⟨.bl _,H,I,rfl,q⟩
theorem zAi(hu:X.A.units+64<cLine):OpR X (compareOp .NotEq) (rEqD true):=by
 intro pins s σ H x y v u Q I rx ry h;obtain⟨d,e,h1,h2,c1,c2,hd,q⟩:=h;obtain⟨as,r1⟩:=DatV.reads I.hok h1 rx;obtain⟨bs,r2⟩:=DatV.reads I.hok h2 ry;exact SeqAt.compareNe_reads r1 r2 c1 c2 (by omega) ⟨.bl _,H,I,rfl,q⟩
noncomputable def rInD(neg:Bool):R2:=fun x y H Q=>∃d ds,DatV H d x/\(DatV H (.list ds) y\/DatV H (.tuple ds) y)/\d.canLay0=true/\PyData.canLayAll0 ds=true/\d.depth<=60/\Q (.bl (if neg then !(ds.any fun y=>PyData.eqv y d)else ds.any fun y=>PyData.eqv y d)) H
theorem zCH(hu:X.A.units+64<cLine):OpR X (compareOp .In) (rInD false):=by
 intro pins s σ H x y v u Q I rx ry h;obtain⟨d,ds,h1,h2,c1,c2,hd,q⟩:=h;obtain⟨as,r1⟩:=DatV.reads I.hok h1 rx;rcases h2 with h2 | h2
 ·obtain⟨bs,r2⟩:=DatV.reads I.hok h2 ry;exact SeqAt.in_list_reads r2 r1 c2 c1 (by have:=Nat.min_le_right (PyData.depthAll ds) d.depth;omega) ⟨.bl _,H,I,rfl,q⟩
 ·obtain⟨bs,r2⟩:=DatV.reads I.hok h2 ry;exact SeqAt.in_tuple_reads r2 r1 c2 c1 (by have:=Nat.min_le_right (PyData.depthAll ds) d.depth;omega) ⟨.bl _,H,I,rfl,q⟩
theorem z4x(hu:X.A.units+64<cLine):OpR X (compareOp .NotIn) (rInD true):=by
 intro pins s σ H x y v u Q I rx ry h;obtain⟨d,ds,h1,h2,c1,c2,hd,q⟩:=h;obtain⟨as,r1⟩:=DatV.reads I.hok h1 rx;rcases h2 with h2 | h2
 ·obtain⟨bs,r2⟩:=DatV.reads I.hok h2 ry;exact SeqAt.notIn_list_reads r2 r1 c2 c1 (by have:=Nat.min_le_right (PyData.depthAll ds) d.depth;omega) ⟨.bl _,H,I,rfl,q⟩
 ·obtain⟨bs,r2⟩:=DatV.reads I.hok h2 ry;exact SeqAt.notIn_tuple_reads r2 r1 c2 c1 (by have:=Nat.min_le_right (PyData.depthAll ds) d.depth;omega) ⟨.bl _,H,I,rfl,q⟩
noncomputable def zBS:R2:=fun x y H Q=>∃a b xs ys,x=.ref a/\y=.ref b/\H a=some (.tup xs)/\H b=some (.tup ys)/\xs.length+ys.length<=sizeLine/\∀p H',Same H H'->H' p=some (.tup (xs++ys))->Q (.ref p) H'
theorem z0h{H:Hp}{D:Addr}{o:HO}(h:H D=none):Same H (upd H D o):=fun b x e=>by rw[zI (zb e h)];exact e
theorem op_catTT:OpR X (binaryOp .Add) zBS:=by
 intro pins s σ H x y v u Q I rx ry h;obtain⟨a,b,xs,ys,rfl,rfl,ha,hb,hz,q⟩:=h;by_cases hx:xs=[]
 ·cases rx;cases ry;subst hx;obtain⟨its,r1,p1,_⟩:=I.tuple (SqT.of (K:=X.K) ha);obtain⟨its2,r2,p2,_⟩:=I.tuple (SqT.of (K:=X.K) hb);cases r1;obtain⟨⟨cls,dd,data,sl⟩,ho,hc,n,hd⟩:=id p1;obtain⟨⟨cls2,dd2,data2,sl2⟩,ho2,hc2,n2,hd2⟩:=id p2;simp only at hc hd hc2 hd2;subst hc hd hc2 hd2;exact concat_meets ⟨_,ho,rfl⟩ ⟨_,ho2,rfl⟩ noFill_tuple_add seq_tuple_add PySem.F.slot_tuple_add PySem.F.entry_tuple_add (PySem.F.args_tuple_add_2 _ _)
   (tuple_addW0 a b #[] its2.toArray n n2 dd dd2 sl sl2 rfl) ⟨ho,ho2,⟨.ref b,H,I,rfl,q b H (fun _ _ e=>e) (by simpa using hb)⟩⟩
 ·refine z9W pins s σ H _ _ v u Q I rx ry ⟨a,b,xs,ys,rfl,rfl,SqT.of ha,SqT.of hb,hx,hz,fun e=>?_,fun e p hp=>q p _ (z0h hp) zG⟩;subst e;exact q a H (fun _ _ e=>e) (by simpa using ha)
noncomputable def zCN:V->Option Int->Option Int->Hp->VK->Prop:=fun x lo hi H Q=>∃a xs,x=.ref a/\H a=some (.tup xs)/\∀p H',Same H H'->H' p=some (.tup (cutV xs lo hi))->Q (.ref p) H'
theorem wH{prog:Program}{w:World}{A:Around}{E:Value->Shared->Prop}{s:Shared}{t sl:Addr}{items:Array Value}{vl vu:Value}{lo hi:Option Int}{Q:Value->Shared->Prop}(ht:IsTup s.heap t items)(hs:s.heap.IsSliceOf sl vl vu .none)(pl:IsPart vl lo)(pu:IsPart vu hi)
  (hw:HT.sIx items.size 0 lo=0/\HT.sIx items.size items.size hi=items.size)
  (h:Q (.ref t) s):wpAny (model prog w) A (getItem (.ref t) (.ref sl)) Q E s:=by
 obtain⟨os,hos,hcs,hds⟩:=id hs;have hTs:s.TypeIs (.ref sl) "slice":=⟨os,hos,hcs⟩;unfold getItem
 try with_reducible refine wpAny_holding ?_
 first | refine wpAny_bind (wpAny_pure ?_) | skip
 refine wpAny_bind (wpAny_sequenceKey ht.typeIs (by decide) ?_);refine wpAny_bind (wpAny_callSpecial?_slot (name:=Str.ofString "__getitem__") ht.typeIs PyProof.Rows.slot_tuple_getitem
  (wpAny_call_entry PyProof.Rows.slot_tuple_getitem ht.typeIs entry_tuple_getitem ?_ (args_tuple_getitem _ _)))
 show wpAny _ _ (Builtin.Tuple.tupleItemsOf (.ref t) >>= _) _ _ s;refine wpAny_bind (tupleItemsOf_ ht ?_);refine wpAny_bind (wpAny_typeOf hTs ?_);rw[if_pos (by decide)];refine wpAny_bind (HT.sliceApplied_gen hs pl pu ?_);have hyes:((((HT.sIx items.size 0 lo:Nat):Int) == 0 && (1:Int) == 1 && (HT.sIx items.size items.size hi - HT.sIx items.size 0 lo) == items.size)=true):=by
  rw[hw.1,hw.2];simp
 show wpAny _ _ (if (((HT.sIx items.size 0 lo:Nat):Int) == 0 && (1:Int) == 1 && (HT.sIx items.size items.size hi - HT.sIx items.size 0 lo) == items.size)=true then _ else _) _ _ s;rw[if_pos hyes];refine wpAny_bind (m:=Builtin.Tuple.tupleIsExact (.ref t)) ?_;unfold Builtin.Tuple.tupleIsExact;refine wpAny_bind (wpAny_typeOf ht.typeIs ?_);refine wpAny_pure ?_;rw[if_pos (by decide)];exact wpAny_bind (wpAny_rule (wpAny_pure ⟨_,rfl,wpAny_pure h⟩))
theorem z6r:SlR X zCN:=by
 intro pins s σ H x v vl vu lo hi sl Q I rx hs pl pu h;obtain⟨a,xs,rfl,hx,q⟩:=h;by_cases hw:HT.sIx xs.length 0 lo=0/\HT.sIx xs.length xs.length hi=xs.length
 ·cases rx;obtain⟨its,r,ht,hz⟩:=I.tuple (SqT.of (K:=X.K) hx);have hlen:its.toArray.size=xs.length:=by rw[List.size_toArray];exact r.length.symm
  refine⟨"tuple",_,PyProof.Rows.slot_tuple_getitem.lookup,ht.typeIs,?_⟩;refine wH ht hs pl pu (by rw[hlen];exact hw) ⟨.ref a,H,I,rfl,q a H (fun _ _ e=>e) ?_⟩;unfold cutV;rw[hw.1,hw.2];simpa using hx
 ·exact zAr pins s σ H _ v vl vu lo hi sl Q I rx hs pl pu ⟨a,xs,rfl,SqT.of hx,hw,fun p hp=>q p _ (z0h hp) zG⟩
theorem uE:fillsNumberSlot (.type "tuple") "mul"=pure false:=
 PySem.fillsNumberSlot_seq (id:="tuple.__mul__") (r:=some (.builtin "tuple.__rmul__")) F.slot_tuple_mul.lookup (by decide +kernel) F.slot_tuple_rmul.lookup (by decide +kernel)
theorem z1V:seqRepeat? (.type "tuple")=pure (some (.builtin "tuple.__mul__")):=by
 unfold seqRepeat?;rw[PySem.seqSlot_of (T:="tuple") (name:="__mul__") (id:="tuple.__mul__") F.slot_tuple_mul.lookup (by decide +kernel),PySem.seqSlot_of (T:="tuple") (name:="__rmul__") (id:="tuple.__rmul__") F.slot_tuple_rmul.lookup (by decide +kernel)];rfl
theorem xX(a:Int)(t:Tok)(l:Addr)(items:Array Value)(n:Nat)(dd:Option Addr)(sl:Array (Option Value)):
  Meets (Builtin.«int.__rmul__» ⟨[.int a t,.ref l],[]⟩) (fun _ R s=>s.heap.get? l=some { cls:=.type "tuple",dict:=dd,data:=.seq items n,slots:=sl }/\R (.ok (.ret Value.notImplemented)) s):=
 .of_wp fun prog w A R s h=>by obtain⟨hp,g,d,tk,os⟩:=s;obtain⟨hl,h⟩:=h;wp_walk;exact⟨_,rfl,h⟩
theorem z2b(l:Addr)(items:Array Value)(n:Nat)(dd:Option Addr)(sl:Array (Option Value))(x:Int)(u:Tok)(h1 : -(2 ^ 63)<=x)(h2:x<2 ^ 63)(hc0:(items.isEmpty || x == 1)=true):
    Meets (Builtin.«tuple.__mul__» ⟨[.ref l,.int x u],[]⟩) (fun _ R s=>s.heap.get? l=some { cls:=.type "tuple",dict:=dd,data:=.seq items n,slots:=sl }/\R (.ok (.ret (Value.ref l))) s):=
  .of_wp fun prog w A R s h=>by
    obtain⟨hp,g,d,tk,os⟩:=s;obtain⟨hl,h⟩:=h;have f1:=AutoSeq1.idx_int;have hb:(decide (x < -(2 ^ 63)) || decide (x>=2 ^ 63))=false:=by simp;omega
    wp_walk using wpAny_loadPart' hl
    refine wpAny_ite_false (decide_eq_false (by rw[hb];exact Bool.false_ne_true)) ?_
    wp_walk using wpAny_loadPart' hl
    first
      | exact⟨_,rfl,h⟩
      | (refine wpAny_ite_true (decide_eq_true hc0) ?_
         wp_walk using wpAny_loadPart' hl
         exact⟨_,rfl,h⟩)
theorem z2O(l:Addr)(items:Array Value)(n:Nat)(dd:Option Addr)(sl:Array (Option Value))(x:Int)(u:Tok)(h1:1<x)(h2:x<2 ^ 63)(hc0:items.isEmpty=false)(hz:items.size*x.toNat<=sizeLine):
  Meets (Builtin.«tuple.__mul__» ⟨[.ref l,.int x u],[]⟩) (fun _ R s=>s.heap.get? l=some { cls:=.type "tuple",dict:=dd,data:=.seq items n,slots:=sl }/\R (.ok (.ret (Value.ref s.heap.objs.size))) { s with heap:=s.heap.push { cls:=Value.type "tuple",data:=Data.seq (List.foldl (fun x1 x2=>x1++x2) #[] (List.replicate x.toNat items)) },toks:=s.toks }):=
 .of_wp fun prog w A R s h=>by
  obtain⟨hp,g,d,tk,os⟩:=s;obtain⟨hl,h⟩:=h;have f1:=AutoSeq1.idx_int;have hb:(decide (x < -(2 ^ 63)) || decide (x>=2 ^ 63))=false:=by simp;omega
  have hc1:(items.isEmpty || x == 1)=false:=by rw[hc0];simp;omega
  have hc2:(decide (x<=0) || items.isEmpty)=false:=by rw[hc0];simp;omega
  have hm:((items.size:Int)*x)=((items.size*x.toNat:Nat):Int):=by
   rw[Int.natCast_mul,Int.toNat_of_nonneg (by omega)]
  have hc3:¬((items.size:Int)*x>(2 ^ 63 - 1) / 8):=by
   rw[hm]
   have:(sizeLine:Nat)<=(2 ^ 63 - 1) / 8:=by decide
   omega
  have hc4:Builtin.Tuple.tupleTooMany ((items.size:Int)*x)=false:=by
   rw[hm];unfold Builtin.Tuple.tupleTooMany;exact decide_eq_false (by omega)
  wp_walk using wpAny_loadPart' hl
  refine wpAny_ite_false (decide_eq_false (by rw[hb];exact Bool.false_ne_true)) ?_
  wp_walk using wpAny_loadPart' hl
  refine wpAny_ite_false (decide_eq_false (by rw[hc1];exact Bool.false_ne_true)) ?_;show wpAny _ _ (if (decide (x<=0) || items.isEmpty)=true then _ else _) _ _ _;refine wpAny_ite_false (decide_eq_false (by rw[hc2];exact Bool.false_ne_true)) ?_;show wpAny _ _ (if (items.size:Int)*x>(2 ^ 63 - 1) / 8 then _ else _) _ _ _;refine wpAny_ite_false (decide_eq_false hc3) ?_;show wpAny _ _ (if Builtin.Tuple.tupleTooMany ((items.size:Int)*x)=true then _ else _) _ _ _;refine wpAny_ite_false (decide_eq_false (by rw[hc4];exact Bool.false_ne_true)) ?_;have hsz:sizeOk (.seq (List.foldl (fun x1 x2=>x1++x2) #[] (List.replicate x.toNat items))):=by
   show(List.foldl (fun x1 x2=>x1++x2) #[] (List.replicate x.toNat items)).size<=sizeLine;have f0:∀(m:Nat) (acc:Array Value),(List.foldl (fun x1 x2=>x1++x2) acc (List.replicate m items)).size=acc.size+m*items.size:=fun m=>by
    induction m with
    | zero=>intro acc;simp
    | succ m ih=>intro acc;rw[List.replicate_succ,List.foldl_cons,ih,Array.size_append,Nat.succ_mul];omega
   rw[f0,Nat.mul_comm];simpa using hz
  exact wpAny_bind (m:=Builtin.Tuple.tupleExact _) (wpAny_newObj_type (wpAny_pure ⟨_,rfl,h⟩) hsz)
noncomputable def zAz:R2:=fun x y H Q=>∃a k xs,x=.ref a/\y=.int k/\H a=some (.tup xs)/\0<k/\k<1000000/\xs.length*k.toNat<=sizeLine/\∀p H',Same H H'->H' p=some (.tup (List.replicate k.toNat xs).flatten)->Q (.ref p) H'
theorem op_repTT:OpR X (binaryOp .Mult) zAz:=by
 intro pins s σ H x y v u Q I rx ry h;obtain⟨l,k,xs,rfl,rfl,hH,h1,h2,hz,q⟩:=h;cases rx;obtain⟨t,rfl⟩:=ry;obtain⟨its,r,ht,hl⟩:=I.tuple (SqT.of (K:=X.K) hH);have hlen:its.length=xs.length:=r.length.symm;obtain⟨⟨cls,dd,data,sl⟩,ho,hc,n,hd⟩:=id ht;simp only at hc hd;subst hc hd;refine wpAny_binaryOp_repeat_ref (T:="tuple") (U:="int") (by decide) ⟨_,ho,rfl⟩ (fun s'=>typeIs_int s' k t) uE F.fills_int_mul F.slot_int_rmul z1V F.slot_int_index.lookup
  (call_meets F.slot_int_rmul (typeIs_int s k t) F.entry_int_rmul (F.args_int_rmul_2 _ _) (xX k t l its.toArray n dd sl)
   ⟨ho,rfl,⟨_,ho,rfl⟩,?_⟩)
 by_cases hc:(its.toArray.isEmpty || k == 1)=true
 ·refine call_meets F.slot_tuple_mul ⟨_,ho,rfl⟩ F.entry_tuple_mul (F.args_tuple_mul_2 _ _) (z2b l its.toArray n dd sl k t (by omega) (by omega) hc) ⟨ho,?_⟩;refine⟨.ref l,H,I,rfl,q l H (fun _ _ e=>e) ?_⟩;rw[Bool.or_eq_true]at hc;rcases hc with hc | hc
  ·have:its=[]:=by simpa using hc
   subst this;cases r;rw[hH];simp
  ·have:k=1:=by simpa using hc
   subst this;rw[hH];simp
 ·have hc':(its.toArray.isEmpty || k == 1)=false:=by simpa using hc
  rw[Bool.or_eq_false_iff]at hc';have k1:k≠1:=by simpa using hc'.2
  refine call_meets F.slot_tuple_mul ⟨_,ho,rfl⟩ F.entry_tuple_mul (F.args_tuple_mul_2 _ _) (z2O l its.toArray n dd sl k t (by omega) (by omega) hc'.1 (by rw[List.size_toArray,hlen];exact hz)) ⟨ho,?_⟩;have f0:List.foldl (fun x1 x2=>x1++x2) #[] (List.replicate k.toNat its.toArray)=(List.replicate k.toNat its).flatten.toArray:=by
   have:=uV its k.toNat [];rw[List.nil_append]at this;exact this
  rw[f0];refine⟨.ref _,_,I.laid (t':=s.toks) (o:=.tup (List.replicate k.toNat xs).flatten) (fun b ob q=>Heap.get?_push_of_some _ q) (Nat.le_refl _) ?_,rfl,q _ _ (z0h (I.hok.fresh (Nat.le_refl _))) zG⟩;exact⟨⟨by rw[z5g,Nat.mul_comm];exact hz,_,Heap.get?_push_size _ rfl,rfl⟩,_,r.rep k.toNat,IsTup.new _ _⟩
end
end L2
namespace L2
open PySem PySem.Spec PyProof.Rows
inductive D where
 | p (x:PyData) | scr (ns:List Int) | town | fn (a:Addr) | exc (a C:Addr) | obj (k:Nat)
inductive Fv where
 | val (x:PyData) | lst (xs:List PyData)
structure Ob where
 C:Addr
 fs:List (Str×Fv)
structure Wd where
 n:Nat
 os:List Ob
inductive Sl where
 | val (d:D) | own (x:PyData) | deep (kls:List (PyData×List PyData))
noncomputable abbrev Ix:=Nat×Nat
noncomputable def Wd.up(w:Wd):Wd:=⟨w.n+1,w.os⟩
inductive Res(α:Type) where
 | ok (a:α) (n:Wd) | err (c:Str) (n:Wd) | bad
noncomputable def Mx(α:Type):Type:=Wd->Res α
noncomputable def Mx.ret{α:Type}(a:α):Mx α:=fun n=>.ok a n
noncomputable def Mx.bind{α β:Type}(m:Mx α)(f:α->Mx β):Mx β:=fun n=>match m n with
 | .ok a n'=>f a n'
 | .err c n'=>.err c n'
 | .bad=>.bad
noncomputable def Mx.bad{α:Type}:Mx α:=fun _=>.bad
noncomputable def Mx.opt{α:Type}:Option α->Mx α
 | some a=>Mx.ret a
 | none=>Mx.bad
noncomputable instance:Monad Mx where
 pure:=Mx.ret
 bind:=Mx.bind
theorem Mx.bind_def{α β:Type}(m:Mx α)(f:α->Mx β)(n:Wd):(m >>= f) n=(match m n with | .ok a n'=>f a n' | .err c n'=>.err c n' | .bad=>.bad):=rfl
noncomputable abbrev Env':=List (Option Sl)
inductive Out where
 | nx (ρ:Env') | rt (d:D) | bk (ρ:Env') | ct (ρ:Env')
def Kp(S:Addr->Prop)(H H':Hp):Prop:=∀b o,H b=some o->(¬S b\/∃xs,o=.tup xs)->H' b=some o
theorem Kp.refl(S:Addr->Prop)(H:Hp):Kp S H H:=fun _ _ h _=>h
theorem Kp.trans{S:Addr->Prop}{H H1 H2:Hp}(a:Kp S H H1)(b:Kp S H1 H2):Kp S H H2:=fun c o h k=>b c o (a c o h k) k
theorem Kp.of{S:Addr->Prop}{H H':Hp}(s:Same H H'):Kp S H H':=fun b o h _=>s b o h
theorem Kp.mono{S S':Addr->Prop}{H H':Hp}(k:Kp S H H')(h:∀a,S a->S' a):Kp S' H H':=fun b o e q=>k b o e (q.imp (fun z w=>z (h b w)) id)
noncomputable def uB:HO->Prop
 | .dK _=>True
 | .dT _=>True
 | _=>False
theorem Rd.kp{S:Addr->Prop}{H H':Hp}(k:Kp S H H'){b:Addr}{u:HO}(h:Rd H b u)(q:¬S b):Rd H' b u:=by
 rcases h with h | ⟨o,h⟩
 ·exact .inl (k b u h (.inl q))
 ·exact .inr ⟨o,k b _ h (.inl q)⟩
theorem Rd.some{H:Hp}{a:Addr}{u:HO}(h:Rd H a u):H a≠none:=by
 rcases h with h | ⟨o,h⟩<;>(rw[h];intro z;cases z)
theorem Rd.not_tup{H:Hp}{a:Addr}{u:HO}(h:Rd H a u)(hd:uB u):∀xs,H a≠.some (.tup xs):=fun xs z=>by
 rcases h with h | ⟨o,h⟩
 ·rw[h]at z;cases z;exact hd
 ·rw[h]at z;cases z
def Pl(H:Hp)(a:Addr):Prop:=∃o,H a=some o/\∀ob u,o≠.frz ob u
theorem Pl.some{H:Hp}{a:Addr}(h:Pl H a):H a≠none:=by
 obtain⟨o,e,_⟩:=h;rw[e];intro z;cases z
theorem Pl.kp{S:Addr->Prop}{H H':Hp}{a:Addr}(h:Pl H a)(k:Kp S H H')(q:¬S a):Pl H' a:=by
 obtain⟨o,e,n⟩:=h;exact⟨o,k _ _ e (.inl q),n⟩
theorem Pl.rd{H:Hp}{a:Addr}{u:HO}(h:Pl H a)(r:Rd H a u):H a=.some u:=by
 obtain⟨o,e,n⟩:=h;rcases r with r | ⟨ob,r⟩
 ·exact r
 ·rw[e]at r;cases r;exact absurd rfl (n ob u)
theorem Pl.upd{H:Hp}{a:Addr}{o:HO}(n:∀ob u,o≠.frz ob u:=by intro _ _ z;cases z):Pl (upd H a o) a:=⟨o,zG,n⟩
noncomputable def kD:Key->PyData
 | .inl i=>.int i
 | .inr x=>.str x
noncomputable def kT(k:List Key):PyData:=.tuple (k.map kD)
def DctAt(H:Hp)(a:Addr)(ks:List (PyData×V)):Prop:=
 (∃l:List (Key×V),Rd H a (.dK l)/\ks=l.map fun kv=>(kD kv.1,kv.2))\/∃l:List (List Key×V),Rd H a (.dT l)/\ks=l.map fun kv=>(kT kv.1,kv.2)
theorem DctAt.kp{S:Addr->Prop}{H H':Hp}{a:Addr}{ks:List (PyData×V)}(k:Kp S H H')(hs:¬S a)(h:DctAt H a ks):DctAt H' a ks:=by
 rcases h with ⟨l,h,e⟩ | ⟨l,h,e⟩
 ·exact .inl ⟨l,h.kp k hs,e⟩
 ·exact .inr ⟨l,h.kp k hs,e⟩
theorem DctAt.some{H:Hp}{a:Addr}{ks:List (PyData×V)}(h:DctAt H a ks):H a≠none:=by
 rcases h with ⟨l,h,_⟩ | ⟨l,h,_⟩<;>exact h.some
theorem DctAt.not_tup{H:Hp}{a:Addr}{ks:List (PyData×V)}(h:DctAt H a ks):∀xs,H a≠.some (.tup xs):=by
 rcases h with ⟨l,h,_⟩ | ⟨l,h,_⟩<;>exact h.not_tup True.intro
mutual
noncomputable def DatS(S:Addr->Prop)(H:Hp):PyData->V->Prop
 | .none,v=>v=.non
 | .bool b,v=>v=.bl b
 | .int i,v=>v=.int i
 | .str x,v=>v=.str x
 | .list ds,v=>∃a xs,v=.ref a/\¬S a/\H a=some (.lst xs)/\DatsS S H ds xs
 | .tuple ds,v=>∃a xs,v=.ref a/\H a=some (.tup xs)/\DatsS S H ds xs
 | .dict kvs,v=>∃a ks,v=.ref a/\¬S a/\DctAt H a ks/\DctS S H kvs ks
noncomputable def DatsS(S:Addr->Prop)(H:Hp):List PyData->List V->Prop
 | [],xs=>xs=[]
 | d::ds,xs=>∃x r,xs=x::r/\DatS S H d x/\DatsS S H ds r
noncomputable def DctS(S:Addr->Prop)(H:Hp):List (PyData×PyData)->List (PyData×V)->Prop
 | [],xs=>xs=[]
 | (k,d)::ds,xs=>∃x r,xs=(k,x)::r/\DatS S H d x/\DctS S H ds r
end
noncomputable def Dat1(T S:Addr->Prop)(H:Hp):PyData->V->Prop
 | .list ds,v=>∃a xs,v=.ref a/\¬T a/\H a=some (.lst xs)/\DatsS S H ds xs
 | .dict kvs,v=>∃a ks,v=.ref a/\¬T a/\DctAt H a ks/\DctS S H kvs ks
 | d,v=>DatS S H d v
theorem DatS.one{T S:Addr->Prop}{H:Hp}{d:PyData}{v:V}(hT:∀a,T a->S a)(h:DatS S H d v):Dat1 T S H d v:=by
 cases d<;>simp only[DatS,Dat1]at h |-
 case list=>obtain⟨a,xs,e,h0,h1,h2⟩:=h;exact⟨a,xs,e,fun z=>h0 (hT a z),h1,h2⟩
 case dict=>obtain⟨a,xs,e,h0,h1,h2⟩:=h;exact⟨a,xs,e,fun z=>h0 (hT a z),h1,h2⟩
 all_goals exact h
mutual
theorem DatS.kp{S S':Addr->Prop}{H H':Hp}(s:Kp S H H')(hS:∀a,S' a->S a\/H a=none):∀{d:PyData} {v:V},DatS S H d v->DatS S' H' d v
 | .none,_,h=>by simp only[DatS]at h |-;exact h
 | .bool _,_,h=>by simp only[DatS]at h |-;exact h
 | .int _,_,h=>by simp only[DatS]at h |-;exact h
 | .str _,_,h=>by simp only[DatS]at h |-;exact h
 | .list _,_,h=>by
  simp only[DatS]at h |-;obtain⟨a,xs,e,h0,h1,h2⟩:=h;exact⟨a,xs,e,fun z=>(hS a z).elim h0 fun q=>(by rw[q]at h1;cases h1),s _ _ h1 (.inl h0),DatsS.kp s hS h2⟩
 | .tuple _,_,h=>by
  simp only[DatS]at h |-;obtain⟨a,xs,e,h1,h2⟩:=h;exact⟨a,xs,e,s _ _ h1 (.inr ⟨_,rfl⟩),DatsS.kp s hS h2⟩
 | .dict _,_,h=>by
  simp only[DatS]at h |-;obtain⟨a,xs,e,h0,h1,h2⟩:=h;exact⟨a,xs,e,fun z=>(hS a z).elim h0 fun q=>h1.some q,h1.kp s h0,DctS.kp s hS h2⟩
theorem DatsS.kp{S S':Addr->Prop}{H H':Hp}(s:Kp S H H')(hS:∀a,S' a->S a\/H a=none):∀{ds:List PyData} {xs:List V},DatsS S H ds xs->DatsS S' H' ds xs
 | [],_,h=>by simp only[DatsS]at h |-;exact h
 | _::_,_,h=>by
  simp only[DatsS]at h |-;obtain⟨x,r,e,h1,h2⟩:=h;exact⟨x,r,e,DatS.kp s hS h1,DatsS.kp s hS h2⟩
theorem DctS.kp{S S':Addr->Prop}{H H':Hp}(s:Kp S H H')(hS:∀a,S' a->S a\/H a=none):∀{ds:List (PyData×PyData)} {xs:List (PyData×V)},DctS S H ds xs->DctS S' H' ds xs
 | [],_,h=>by simp only[DctS]at h |-;exact h
 | (_,_)::_,_,h=>by
  simp only[DctS]at h |-;obtain⟨x,r,e,h1,h2⟩:=h;exact⟨x,r,e,DatS.kp s hS h1,DctS.kp s hS h2⟩
end
theorem Dat1.move{T T' S S':Addr->Prop}{H H':Hp}(s:Kp S H H')(hS:∀a,S' a->S a\/H a=none){d:PyData}{v:V}(top:∀a,v=.ref a->H a≠none->¬T a->(∀o,H a=some o->H' a=some o)/\¬T' a)(h:Dat1 T S H d v):Dat1 T' S' H' d v:=by
 cases d<;>simp only[Dat1]at h |-
 case list=>
  obtain⟨b,xs,rfl,h0,h1,h2⟩:=h;obtain⟨t1,t2⟩:=top b rfl (by rw[h1];intro z;cases z) h0;exact⟨b,xs,rfl,t2,t1 _ h1,DatsS.kp s hS h2⟩
 case dict=>
  obtain⟨b,xs,rfl,h0,h1,h2⟩:=h;obtain⟨t1,t2⟩:=top b rfl h1.some h0;refine⟨b,xs,rfl,t2,?_,DctS.kp s hS h2⟩;have mv:∀{u:HO},Rd H b u->Rd H' b u:=fun{u} h=>h.imp (t1 _) fun⟨o,h⟩=>⟨o,t1 _ h⟩;rcases h1 with ⟨l,h,e⟩ | ⟨l,h,e⟩
  ·exact .inl ⟨l,mv h,e⟩
  ·exact .inr ⟨l,mv h,e⟩
 all_goals exact DatS.kp s hS h
theorem Dat1.kp{T U S:Addr->Prop}{H H':Hp}(s:Kp T H H')(hT:∀a,T a->U a)(hU:∀a,U a->S a){d:PyData}{v:V}(h:Dat1 U S H d v):Dat1 U S H' d v:=
 h.move (s.mono fun a z=>hU a (hT a z)) (fun a z=>.inl z) fun a _ _ ht=>⟨fun o e=>s _ _ e (.inl fun z=>ht (hT a z)),ht⟩
theorem Dat1.weak{T S:Addr->Prop}{H:Hp}{d:PyData}{v:V}(h:Dat1 T S H d v):Dat1 (fun _=>False) S H d v:=by
 cases d<;>simp only[Dat1]at h |-
 case list=>obtain⟨b,xs,e,_,h⟩:=h;exact⟨b,xs,e,id,h⟩
 case dict=>obtain⟨b,xs,e,_,h⟩:=h;exact⟨b,xs,e,id,h⟩
 all_goals exact h
noncomputable def imm:PyData->Bool
 | .list _=>false
 | .dict _=>false
 | .tuple ds=>immAll ds
 | _=>true
where immAll:List PyData->Bool
 | []=>true
 | d::r=>imm d && immAll r
mutual
theorem DatS.imm{S S':Addr->Prop}{H:Hp}:∀{d:PyData} {v:V},imm d=true->DatS S H d v->DatS S' H d v
 | .none,_,_,h=>by simp only[DatS]at h |-;exact h
 | .bool _,_,_,h=>by simp only[DatS]at h |-;exact h
 | .int _,_,_,h=>by simp only[DatS]at h |-;exact h
 | .str _,_,_,h=>by simp only[DatS]at h |-;exact h
 | .list _,_,c,_=>by simp[L2.imm]at c
 | .dict _,_,c,_=>by simp[L2.imm]at c
 | .tuple ds,_,c,h=>by
  simp only[DatS]at h |-;obtain⟨a,xs,e,h1,h2⟩:=h;exact⟨a,xs,e,h1,DatsS.imm (by simpa only[L2.imm]using c) h2⟩
theorem DatsS.imm{S S':Addr->Prop}{H:Hp}:∀{ds:List PyData} {xs:List V},imm.immAll ds=true->DatsS S H ds xs->DatsS S' H ds xs
 | [],_,_,h=>by simp only[DatsS]at h |-;exact h
 | _::_,_,c,h=>by
  simp only[DatsS]at h |-;obtain⟨x,r,e,h1,h2⟩:=h;simp only[L2.imm.immAll,Bool.and_eq_true]at c;exact⟨x,r,e,DatS.imm c.1 h1,DatsS.imm c.2 h2⟩
end
mutual
theorem DatS.keep{S:Addr->Prop}{H H':Hp}(k:∀b xs,H b=some (.tup xs)->H' b=some (.tup xs)):∀{d:PyData} {v:V},imm d=true->DatS S H d v->DatS S H' d v
 | .none,_,_,h=>by simp only[DatS]at h |-;exact h
 | .bool _,_,_,h=>by simp only[DatS]at h |-;exact h
 | .int _,_,_,h=>by simp only[DatS]at h |-;exact h
 | .str _,_,_,h=>by simp only[DatS]at h |-;exact h
 | .list _,_,c,_=>by simp[L2.imm]at c
 | .dict _,_,c,_=>by simp[L2.imm]at c
 | .tuple ds,_,c,h=>by
  simp only[DatS]at h |-;obtain⟨a,xs,e,h1,h2⟩:=h;exact⟨a,xs,e,k _ _ h1,DatsS.keep k (by simpa only[L2.imm]using c) h2⟩
theorem DatsS.keep{S:Addr->Prop}{H H':Hp}(k:∀b xs,H b=some (.tup xs)->H' b=some (.tup xs)):∀{ds:List PyData} {xs:List V},imm.immAll ds=true->DatsS S H ds xs->DatsS S H' ds xs
 | [],_,_,h=>by simp only[DatsS]at h |-;exact h
 | _::_,_,c,h=>by
  simp only[DatsS]at h |-;obtain⟨x,r,e,h1,h2⟩:=h;simp only[L2.imm.immAll,Bool.and_eq_true]at c;exact⟨x,r,e,DatS.keep k c.1 h1,DatsS.keep k c.2 h2⟩
end
structure Oa where
 a:Addr
 dx:Addr
 ls:Str->Option Addr
def Oa.has(o:Oa)(b:Addr):Prop:=b=o.a\/b=o.dx\/∃f,o.ls f=some b
noncomputable def FvAt(H:Hp)(o:Oa)(f:Str)(v:V):Fv->Prop
 | .val x=>imm x=true/\DatS (fun _=>False) H x v
 | .lst xs=>∃l vs,o.ls f=some l/\v=.ref l/\H l=some (.lst vs)/\imm.immAll xs=true/\DatsS (fun _=>False) H xs vs
noncomputable def Fds(H:Hp)(o:Oa):List (Str×Fv)->List (Str×V)->Prop
 | [],fs=>fs=[]
 | (f,x)::d,fs=>∃v r,fs=(f,v)::r/\FvAt H o f v x/\Fds H o d r
def ObAt(H:Hp)(o:Oa)(d:Ob):Prop:=(∃fs,H o.a=some (.ins d.C o.dx fs)/\Fds H o d.fs fs)/\H o.dx=some (.own o.a)/\(∀f l,o.ls f=some l->∃vs,H l=some (.lst vs))/\(d.fs.map (·.1)).Nodup
theorem FvAt.keep{H H':Hp}{o:Oa}{f:Str}{v:V}{x:Fv}(k:∀b xs,H b=some (.tup xs)->H' b=some (.tup xs))(kl:∀l,o.ls f=some l->H' l=H l)(h:FvAt H o f v x):FvAt H' o f v x:=by
 cases x with
 | val x=>exact⟨h.1,DatS.keep k h.1 h.2⟩
 | lst xs=>obtain⟨l,vs,e,e2,h1,c,h2⟩:=h;exact⟨l,vs,e,e2,by rw[kl l e];exact h1,c,DatsS.keep k c h2⟩
theorem Fds.keep{H H':Hp}{o:Oa}(k:∀b xs,H b=some (.tup xs)->H' b=some (.tup xs))(kl:∀f l,o.ls f=some l->H' l=H l):∀{d:List (Str×Fv)} {fs:List (Str×V)},Fds H o d fs->Fds H' o d fs
 | [],_,h=>h
 | (f,x)::d,_,h=>by
  obtain⟨v,r,e,h1,h2⟩:=h;exact⟨v,r,e,h1.keep k (kl f),Fds.keep k kl h2⟩
theorem ObAt.keep{H H':Hp}{o:Oa}{d:Ob}(k:∀b xs,H b=some (.tup xs)->H' b=some (.tup xs))(kh:∀b,o.has b->H' b=H b)(h:ObAt H o d):ObAt H' o d:=by
 obtain⟨⟨fs,h1,h2⟩,h3,h4,h5⟩:=h;exact⟨⟨fs,by rw[kh _ (.inl rfl)];exact h1,h2.keep k fun f l e=>kh l (.inr (.inr ⟨f,e⟩))⟩,by rw[kh _ (.inr (.inl rfl))];exact h3,fun f l e=>by rw[kh l (.inr (.inr ⟨f,e⟩))];exact h4 f l e,h5⟩
theorem ObAt.dom{H:Hp}{o:Oa}{d:Ob}(h:ObAt H o d){b:Addr}(hb:o.has b):H b≠none:=by
 obtain⟨⟨fs,h1,h2⟩,h3,h4,_⟩:=h;rcases hb with rfl | rfl | ⟨f,e⟩
 ·rw[h1];intro z;cases z
 ·rw[h3];intro z;cases z
 ·obtain⟨vs,h⟩:=h4 f b e;rw[h];intro z;cases z
structure Tw where
 t:Option Addr
 ob:Nat->Option Oa
structure Gh where
 aS:Addr
 ns:List Int
 aT:Tw
 S0:Addr->Prop
 H0:Hp
noncomputable def Tw.T(t:Tw):Addr->Prop:=fun b=>t.t=some b\/∃k o,t.ob k=some o/\o.has b
noncomputable def Gh.T(g:Gh):Addr->Prop:=g.aT.T
noncomputable def Gh.U(g:Gh):Addr->Prop:=fun b=>g.S0 b\/g.T b
noncomputable def Gh.S(g:Gh)(ow:Ix->Option Addr):Addr->Prop:=fun b=>g.S0 b\/g.T b\/∃i,ow i=some b
structure TwnT(t:Tw)(H:Hp)(n:Wd):Prop where
 town:∀a,t.t=some a->H a=some (.lst (List.replicate n.n (.int 0)))
 obs:∀k o,t.ob k=some o->∃d,n.os[k]?=some d/\ObAt H o d
noncomputable abbrev Twn(g:Gh)(H:Hp)(n:Wd):Prop:=TwnT g.aT H n
structure Gdis(t:Tw):Prop where
 tw:∀k o b,t.ob k=some o->o.has b->t.t≠some b
 apart:∀k k' o o' b,t.ob k=some o->t.ob k'=some o'->o.has b->o'.has b->k=k'
 inj:∀k o f f' l,t.ob k=some o->o.ls f=some l->o.ls f'=some l->f=f'
theorem TwnT.dom{t0:Tw}{H:Hp}{n:Wd}(t:TwnT t0 H n){a:Addr}(h:t0.T a):H a≠none:=by
 rcases h with h | ⟨k,o,h,hb⟩
 ·rw[t.town a h];intro z;cases z
 ·obtain⟨d,_,q⟩:=t.obs k o h;exact q.dom hb
theorem TwnT.keep{t0:Tw}{H H':Hp}{n:Wd}(t:TwnT t0 H n)(k:∀b xs,H b=some (.tup xs)->H' b=some (.tup xs))(kh:∀b,t0.T b->H' b=H b):TwnT t0 H' n:=
 ⟨fun a e=>by rw[kh a (.inl e)];exact t.town a e,fun i o e=>by
  obtain⟨d,e2,q⟩:=t.obs i o e;exact⟨d,e2,q.keep k fun b hb=>kh b (.inr ⟨i,o,e,hb⟩)⟩⟩
theorem TwnT.updT{t0:Tw}{H:Hp}{n:Wd}{a:Addr}{o:HO}(t:TwnT t0 H n)(h:¬t0.T a)(hm:∀xs,H a≠some (.tup xs)):TwnT t0 (L2.upd H a o) n:=
 t.keep (fun b xs e=>by rw[zI (show b≠a from fun z=>hm xs (z▸e))];exact e) fun b hb=>zI (show b≠a from fun z=>h (z▸hb))
def Scp(K:W.Frag)(g:Gh)(H:Hp):Prop:=((∀H':Hp,SqL K H' g.aS (g.ns.map V.int))\/(¬g.T g.aS/\SqL K H g.aS (g.ns.map V.int)))/\Gdis g.aT
noncomputable def zBD(a C:Addr):Heap->Prop:=fun h=>∃o,h.get? a=some o/\o.cls=.ref C
noncomputable def Rep(g:Gh)(S:Addr->Prop)(H:Hp):D->V->Prop
 | .p x,v=>DatS S H x v
 | .scr ns,v=>ns=g.ns/\v=.ref g.aS
 | .town,v=>∃a,g.aT.t=some a/\v=.ref a
 | .obj k,v=>∃o,g.aT.ob k=some o/\v=.ref o.a
 | .fn a,v=>v=.ref a
 | .exc a C,v=>v=.ref a/\¬S a/\H a=some (.ext (zBD a C))
noncomputable def Rep1(g:Gh)(S:Addr->Prop)(H:Hp):D->V->Prop
 | .p x,v=>Dat1 g.U S H x v
 | .scr ns,v=>ns=g.ns/\v=.ref g.aS
 | .town,v=>∃a,g.aT.t=some a/\v=.ref a
 | .obj k,v=>∃o,g.aT.ob k=some o/\v=.ref o.a
 | .fn a,v=>v=.ref a
 | .exc a C,v=>v=.ref a/\¬S a/\H a=some (.ext (zBD a C))
theorem Rep1.d1{g:Gh}{S:Addr->Prop}{H:Hp}{x:PyData}{v:V}(h:Rep1 g S H (.p x) v):Dat1 g.U S H x v:=h
theorem Rep.one{g:Gh}{S:Addr->Prop}{H:Hp}{d:D}{v:V}(hT:∀a,g.U a->S a)(h:Rep g S H d v):Rep1 g S H d v:=by
 cases d with
 | p x=>exact DatS.one hT h
 | scr=>exact h
 | town=>exact h
 | obj=>exact h
 | fn=>exact h
 | exc=>exact h
theorem Rep.kp{g:Gh}{S S':Addr->Prop}{H H':Hp}(s:Kp S H H')(hS:∀a,S' a->S a\/H a=none){d:D}{v:V}(h:Rep g S H d v):Rep g S' H' d v:=by
 cases d with
 | p x=>exact DatS.kp s hS h
 | scr=>exact h
 | town=>exact h
 | obj=>exact h
 | fn=>exact h
 | exc a C=>exact⟨h.1,fun z=>(hS _ z).elim h.2.1 fun q=>(by have k:=h.2.2;rw[q]at k;cases k),s _ _ h.2.2 (.inl h.2.1)⟩
def DpO(g:Gh)(ow:Ix->Option Addr)(H:Hp)(i:Nat)(kls:List (PyData×List PyData))(v:V):Prop:=
 ∃a ks,v=.ref a/\ow (i,0)=some a/\DctAt H a ks/\ks.length=kls.length/\∀j k l,kls[j]?=some (k,l)->∃b xs,ks[j]?=some (k,.ref b)/\ow (i,j+1)=some b/\H b=some (.lst xs)/\DatsS (g.S ow) H l xs
theorem DpO.move{g g':Gh}{ow ow':Ix->Option Addr}{H H':Hp}{i:Nat}{kls:List (PyData×List PyData)}{v:V}(h:DpO g ow H i kls v)(hi:∀j a,ow (i,j)=some a->ow' (i,j)=some a)(top:∀j a,ow (i,j)=some a->∀o,H a=some o->H' a=some o)
  (kS:Kp (g.S ow) H H') (hS:∀a,g'.S ow' a->g.S ow a\/H a=none):DpO g' ow' H' i kls v:=by
 obtain⟨a,ks,e,e0,hd,hl,hk⟩:=h;refine⟨a,ks,e,hi _ _ e0,?_,hl,fun j k l ej=>?_⟩
 ·have mv:∀{u:HO},Rd H a u->Rd H' a u:=fun{u} h=>h.imp (top 0 a e0 _) fun⟨o,h⟩=>⟨o,top 0 a e0 _ h⟩;rcases hd with ⟨l,h,e⟩ | ⟨l,h,e⟩
  ·exact .inl ⟨l,mv h,e⟩
  ·exact .inr ⟨l,mv h,e⟩
 ·obtain⟨b,xs,q1,q2,q3,q4⟩:=hk j k l ej;exact⟨b,xs,q1,hi _ _ q2,top _ _ q2 _ q3,DatsS.kp kS hS q4⟩
def z1Z(a:Addr)(bs:List (List Int×Addr))(h:Heap):Prop:=∃(hs:List Int->Int) (o:Obj) (es:Array DictEntry) (ep:Nat),(∀(P:Program) (w:World) (ns:List Int),(tupleKind (zT P w)).hash (ns.map Sum.inl)=hs ns)/\h.get? a=some o/\o.ExactDict/\o.data=.dict es ep/\
 es.toList=(bs.map fun q=>(⟨hs q.1,.ref q.2,.bool true⟩:DictEntry))++[⟨0xFCA86420,.none,.bool true⟩]/\(bs.map (·.1)).Nodup/\(a == sysModules)=false
def DpN(g:Gh)(ow:Ix->Option Addr)(H:Hp)(i:Nat)(kls:List (PyData×List PyData))(v:V):Prop:=
 ∃(a:Addr) (bs:List (List Int×Addr)),v=.ref a/\ow (i,0)=some a/\H a=some (.ext (z1Z a bs))/\(∀q∈bs,H q.2=some (.tup (q.1.map V.int)))/\kls=(PyData.none,[])::bs.map fun q=>(PyData.tuple (q.1.map PyData.int),[])
def Dp(g:Gh)(ow:Ix->Option Addr)(H:Hp)(i:Nat)(kls:List (PyData×List PyData))(v:V):Prop:=DpO g ow H i kls v\/DpN g ow H i kls v
theorem Dp.move{g g':Gh}{ow ow':Ix->Option Addr}{H H':Hp}{i:Nat}{kls:List (PyData×List PyData)}{v:V}(h:Dp g ow H i kls v)(hi:∀j a,ow (i,j)=some a->ow' (i,j)=some a)(top:∀j a,ow (i,j)=some a->∀o,H a=some o->H' a=some o)
  (kS:Kp (g.S ow) H H') (hS:∀a,g'.S ow' a->g.S ow a\/H a=none):Dp g' ow' H' i kls v:=by
 rcases h with h | ⟨a,bs,e,e0,ha,hb,ek⟩
 ·exact .inl (h.move hi top kS hS)
 ·exact .inr ⟨a,bs,e,hi _ _ e0,top 0 a e0 _ ha,fun q hq=>kS _ _ (hb q hq) (.inr ⟨_,rfl⟩),ek⟩
structure Frm(K:W.Frag)(g:Gh)(ow:Ix->Option Addr)(ρ:Env')(n:Wd)(σ:St)(H:Hp):Prop where
 scr:Scp K g g.H0
 twn:Twn g H n
 sub:∀a,g.S0 a->g.H0 a≠none
 ext:Kp g.T g.H0 H
 val:∀(i:Nat) (d:D),ρ[i]?=some (some (Sl.val d))->∃v,σ[i]?=some (some v)/\Rep g (g.S ow) H d v
 own:∀(i:Nat) (x:PyData),ρ[i]?=some (some (Sl.own x))->∃a,ow (i,0)=some a/\σ[i]?=some (some (.ref a))/\Dat1 g.U (g.S ow) H x (.ref a)
 dp:∀(i:Nat) (kls:List (PyData×List PyData)),ρ[i]?=some (some (Sl.deep kls))->∃v,σ[i]?=some (some v)/\Dp g ow H i kls v
 owi:∀(i:Ix) (a:Addr),ow i=some a->g.H0 a=none/\Pl H a/\¬g.T a/\i.1<ρ.length
 inj:∀(i j:Ix) (a:Addr),ow i=some a->ow j=some a->i=j
 len:ρ.length=σ.length
section
variable{K:W.Frag}{g:Gh}{ow:Ix->Option Addr}{ρ:Env'}{n n':Wd}{σ:St}{H H':Hp}
theorem Kp.some{S:Addr->Prop}(k:Kp S H H'){a:Addr}(h:H a≠none)(hs:¬S a):H' a≠none:=by
 cases e:H a with
 | none=>exact absurd e h
 | some o=>rw[k _ _ e (.inl hs)];intro z;cases z
theorem Frm.dom(f:Frm K g ow ρ n σ H):∀a,g.S ow a->H a≠none:=by
 intro a h;by_cases ht:g.T a
 ·exact f.twn.dom ht
 ·rcases h with h | h | ⟨i,h⟩
  ·exact f.ext.some (f.sub a h) ht
  ·exact absurd h ht
  ·exact(f.owi i a h).2.1.some
theorem Frm.kp(f:Frm K g ow ρ n σ H)(k:Kp g.T H H')(t:Twn g H' n'):Frm K g ow ρ n' σ H':=by
 have kS:Kp (g.S ow) H H':=k.mono fun a h=>.inr (.inl h);refine⟨f.scr,t,f.sub,f.ext.trans k,fun i d e=>?_,fun i x e=>?_,fun i kl e=>?_,fun i a e=>?_,f.inj,f.len⟩
 ·obtain⟨v,e1,r⟩:=f.val i d e;exact⟨v,e1,r.kp kS fun a h=>.inl h⟩
 ·obtain⟨a,e1,e2,r⟩:=f.own i x e;exact⟨a,e1,e2,r.kp k (fun a h=>.inr h) fun a h=>h.elim .inl fun z=>.inr (.inl z)⟩
 ·obtain⟨v,e1,r⟩:=f.dp i kl e;exact⟨v,e1,r.move (fun _ _ z=>z) (fun j a z o q=>k _ _ q (.inl (f.owi _ a z).2.2.1)) kS fun a h=>.inl h⟩
 ·obtain⟨e1,e2,e3,e4⟩:=f.owi i a e;exact⟨e1,e2.kp k e3,e3,e4⟩
theorem Frm.scp(f:Frm K g ow ρ n σ H):Scp K g H:=by
 refine⟨?_,f.scr.2⟩;rcases f.scr.1 with h | ⟨h1,h2⟩
 ·exact .inl h
 ·refine .inr ⟨h1,?_⟩;rcases h2 with (h | ⟨o,h⟩) | h
  ·exact .inl (.inl (f.ext _ _ h (.inl h1)))
  ·exact .inl (.inr ⟨o,f.ext _ _ h (.inl h1)⟩)
  ·exact .inr h
end
noncomputable abbrev RG(α β:Type):=Gh->(Addr->Prop)->Hp->Hp->α->β->Prop
def AftG{α β:Type}(R:Hp->Hp->α->β->Prop)(g:Gh)(Er:Str->Hp->Prop)(H:Hp)(r:Res α)(Q:β->Hp->Prop):Prop:=match r with
 | .ok a n'=>∀v H',Kp g.T H H'->Twn g H' n'->R H H' a v->Q v H'
 | .err c n'=>∀H',Kp g.T g.H0 H'->Twn g H' n'->Er c H'
 | .bad=>False
noncomputable def rdG{α β:Type}(R:RG α β)(K:W.Frag)(Er:Str->Hp->Prop)(m:Env'->Mx α):St->Hp->(β->Hp->Prop)->Prop:=fun σ H Q=>
 ∃g ow ρ n,Frm K g ow ρ n σ H/\AftG (R g (g.S ow)) g Er H (m ρ n) Q
noncomputable abbrev RE:RG D V:=fun g S _ H' d v=>Rep g S H' d v
noncomputable abbrev RW:RG D V:=fun g S _ H' d v=>Rep1 g S H' d v
noncomputable abbrev RF:RG PyData V:=fun g S H H' x v=>∃a,v=.ref a/\H a=none/\Pl H' a/\Dat1 (fun _=>False) (fun b=>S b\/b=a) H' x (.ref a)
noncomputable abbrev RT:RG Bool Bool:=fun _ _ _ _ a b=>a=b
inductive All2{α β:Type}(R:α->β->Prop):List α->List β->Prop where
 | nil:All2 R [] []
 | cons {a b as bs}:R a b->All2 R as bs->All2 R (a::as) (b::bs)
theorem All2.imp{α β:Type}{R R':α->β->Prop}(h:∀a b,R a b->R' a b):∀{as:List α} {bs:List β},All2 R as bs->All2 R' as bs
 | _,_,.nil=>.nil
 | _,_,.cons r t=>.cons (h _ _ r) (All2.imp h t)
theorem All2.length{α β:Type}{R:α->β->Prop}:∀{as:List α} {bs:List β},All2 R as bs->as.length=bs.length
 | _,_,.nil=>rfl
 | _,_,.cons _ t=>congrArg (·+1) (All2.length t)
noncomputable abbrev RA:RG (List D) (List V):=fun g S _ H' ds vs=>All2 (Rep g S H') ds vs
noncomputable abbrev RAW:RG (List D) (List V):=fun g S _ H' ds vs=>All2 (Rep1 g S H') ds vs
section
variable{α β γ δ:Type}{K:W.Frag}{g:Gh}{ow:Ix->Option Addr}{ρ:Env'}{n n':Wd}{σ:St}{H H':Hp}{Er:Str->Hp->Prop}
theorem AftG.bind{R1:Hp->Hp->α->γ->Prop}{R2:Hp->Hp->β->δ->Prop}{m:Mx α}{f:α->Mx β}{Q:δ->Hp->Prop}{Z:γ->Hp->Prop}(h:AftG R2 g Er H ((m >>= f) n) Q)
  (k:∀a n' v H1,Kp g.T H H1->Twn g H1 n'->R1 H H1 a v->(∀{R3:Hp->Hp->β->δ->Prop},(∀H2 b u,R3 H1 H2 b u->R2 H H2 b u)->AftG R3 g Er H1 (f a n') Q)->Z v H1):AftG R1 g Er H (m n) Z:=by
 rw[Mx.bind_def]at h;cases e:m n with
 | ok a n'=>
  rw[e]at h;refine fun v H1 k1 t1 r1=>k a n' v H1 k1 t1 r1 fun{R3} hR=>?_;have h:AftG R2 g Er H (f a n') Q:=h;show AftG R3 g Er H1 (f a n') Q;generalize f a n'=r at h;cases r with
  | ok b n2=>exact fun v2 H2 k2 t2 r2=>h v2 H2 (k1.trans k2) t2 (hR _ _ _ r2)
  | err c n2=>exact h
  | bad=>exact h
 | err c n'=>rw[e]at h;exact h
 | bad=>rw[e]at h;exact h
theorem AftG.imp{R1 R2:Hp->Hp->α->γ->Prop}{r:Res α}{Q Q':γ->Hp->Prop}(h:AftG R1 g Er H r Q)(hR:∀H' a v,R2 H H' a v->R1 H H' a v)(hQ:∀v H',Q v H'->Q' v H'):AftG R2 g Er H r Q':=by
 cases r with
 | ok a n'=>exact fun v H' k t r=>hQ v H' (h v H' k t (hR _ _ _ r))
 | err c n'=>exact h
 | bad=>exact h
end
theorem PE.imp{X:Cx}{e:Expr}{t t':TE}(h:PE X e t)(k:∀σ H Q,t' σ H Q->t σ H Q):PE X e t':=fun pins s σ H Q I q=>h pins s σ H Q I (k σ H Q q)
theorem PT.imp{X:Cx}{e:Expr}{t t':TT}(h:PT X e t)(k:∀σ H Q,t' σ H Q->t σ H Q):PT X e t':=fun pins s σ H Q I q=>h pins s σ H Q I (k σ H Q q)
theorem PA.imp{X:Cx}{e:List Expr}{t t':TA}(h:PA X e t)(k:∀σ H Q,t' σ H Q->t σ H Q):PA X e t':=fun pos pins s σ H Q I q=>h pos pins s σ H Q I (k σ H Q q)
theorem PS.imp{X:Cx}{e:Stmt}{t t':TS}(h:PS X e t)(k:∀σ H Q,t' Q σ H->t Q σ H):PS X e t':=fun pins s σ H Q I q=>h pins s σ H Q I (k σ H Q q)
theorem PSs.imp{X:Cx}{e:List Stmt}{t t':TS}(h:PSs X e t)(k:∀σ H Q,t' Q σ H->t Q σ H):PSs X e t':=fun pins s σ H Q I q=>h pins s σ H Q I (k σ H Q q)
noncomputable abbrev DE(K:W.Frag)(Er:Str->Hp->Prop)(X:Cx)(e:Expr)(m:Env'->Mx D):Prop:=PE X e (rdG RE K Er m)
noncomputable abbrev DW(K:W.Frag)(Er:Str->Hp->Prop)(X:Cx)(e:Expr)(m:Env'->Mx D):Prop:=PE X e (rdG RW K Er m)
noncomputable abbrev DF(K:W.Frag)(Er:Str->Hp->Prop)(X:Cx)(e:Expr)(m:Env'->Mx PyData):Prop:=PE X e (rdG RF K Er m)
noncomputable abbrev DT(K:W.Frag)(Er:Str->Hp->Prop)(X:Cx)(e:Expr)(m:Env'->Mx Bool):Prop:=PT X e (rdG RT K Er m)
noncomputable abbrev DA(K:W.Frag)(Er:Str->Hp->Prop)(X:Cx)(es:List Expr)(m:Env'->Mx (List D)):Prop:=PA X es (rdG RA K Er m)
noncomputable abbrev DAW(K:W.Frag)(Er:Str->Hp->Prop)(X:Cx)(es:List Expr)(m:Env'->Mx (List D)):Prop:=PA X es (rdG RAW K Er m)
section
variable{K:W.Frag}{Er:Str->Hp->Prop}{X:Cx}{e a b:Expr}{m ma mb:Env'->Mx D}
theorem DE.w(h:DE K Er X e m):DW K Er X e m:=h.imp fun σ H Q ⟨g,ow,ρ,n,f,q⟩=>⟨g,ow,ρ,n,f,q.imp (fun _ _ _ r=>r.one fun _ z=>z.elim .inl fun z=>.inr (.inl z)) fun _ _ z=>z⟩
noncomputable def mP(m:Env'->Mx PyData):Env'->Mx D:=fun ρ=>m ρ >>= fun x=>pure (.p x)
theorem DF.de{mf:Env'->Mx PyData}(h:DF K Er X e mf):DE K Er X e (mP mf):=h.imp fun σ H Q ⟨g,ow,ρ,n,f,q⟩=>⟨g,ow,ρ,n,f,by
 refine AftG.bind q fun x n' v H1 k1 t1 r1 c=>?_;obtain⟨a,rfl,ha,_,d⟩:=r1;have hn:¬g.S ow a:=fun z=>f.dom a z ha;refine c (R3:=fun _ H2 b u=>Rep g (g.S ow) H2 b u) (fun _ _ _ z=>z) (.ref a) H1 (Kp.refl _ _) t1 ?_;show DatS _ _ x _;cases x<;>simp only[Dat1,DatS]at d |-
 case list=>obtain⟨b,xs,e,_,h1,h2⟩:=d;cases e;exact⟨a,xs,rfl,hn,h1,DatsS.kp (Kp.refl _ _) (fun _ z=>.inl (.inl z)) h2⟩
 case dict=>obtain⟨b,xs,e,_,h1,h2⟩:=d;cases e;exact⟨a,xs,rfl,hn,h1,DctS.kp (Kp.refl _ _) (fun _ z=>.inl (.inl z)) h2⟩
 case tuple=>obtain⟨b,xs,e,h1,h2⟩:=d;exact⟨b,xs,e,h1,DatsS.kp (Kp.refl _ _) (fun _ z=>.inl (.inl z)) h2⟩
 all_goals cases d⟩
end
end L2
namespace L2
open PySem PySem.Spec PyProof.Rows
theorem yt{n:Nat}(h:n<=1000000):n<=sizeLine:=by rw[sizeLine_eq];omega
theorem OpR.imp{X:Cx}{f:Value->Value->Sem Value}{r r':R2}(h:OpR X f r)(k:∀x y H Q,r' x y H Q->r x y H Q):OpR X f r':=fun pins s σ H x y v u Q I rx ry q=>h pins s σ H x y v u Q I rx ry (k x y H Q q)
theorem IxR.imp{X:Cx}{r r':R2}(h:IxR X r)(k:∀x y H Q,r' x y H Q->r x y H Q):IxR X r':=fun va sl pins s σ H x y v u Q I rx ry q=>h va sl pins s σ H x y v u Q I rx ry (k x y H Q q)
theorem CallR.imp{X:Cx}{f:Value}{r r':List V->Hp->VK->Prop}(h:CallR X f r)(k:∀xs H Q,r' xs H Q->r xs H Q):CallR X f r':=fun pins s σ H xs us Q I rx q=>h pins s σ H xs us Q I rx (k xs H Q q)
theorem SlR.imp{X:Cx}{r r':V->Option Int->Option Int->Hp->VK->Prop}(h:SlR X r)(k:∀x a b H Q,r' x a b H Q->r x a b H Q):SlR X r':=fun pins s σ H x v vl vu lo hi sl Q I rx hs pl pu q=>h pins s σ H x v vl vu lo hi sl Q I rx hs pl pu (k _ _ _ _ _ q)
theorem DatsS.length{S:Addr->Prop}{H:Hp}:∀{ds:List PyData} {xs:List V},DatsS S H ds xs->ds.length=xs.length
 | [],_,h=>by simp only[DatsS]at h;subst h;rfl
 | _::_,_,h=>by
  simp only[DatsS]at h;obtain⟨x,r,rfl,_,h2⟩:=h;simp[DatsS.length h2]
theorem DatsS.append{S:Addr->Prop}{H:Hp}:∀{ds es:List PyData} {xs ys:List V},DatsS S H ds xs->DatsS S H es ys->DatsS S H (ds++es) (xs++ys)
 | [],_,_,_,h,k=>by simp only[DatsS]at h;subst h;exact k
 | _::_,_,_,_,h,k=>by
  simp only[DatsS]at h;obtain⟨x,r,rfl,h1,h2⟩:=h;show DatsS S H (_::(_++_)) _;simp only[DatsS];exact⟨x,_,rfl,h1,DatsS.append h2 k⟩
theorem DatsS.get{S:Addr->Prop}{H:Hp}:∀{ds:List PyData} {xs:List V} {i:Nat} {d:PyData},DatsS S H ds xs->ds[i]?=some d->∃x,xs[i]?=some x/\DatS S H d x
 | [],_,_,_,_,e=>by simp at e
 | _::_,_,0,_,h,e=>by
  simp only[DatsS]at h;obtain⟨x,r,rfl,h1,h2⟩:=h;simp at e;subst e;exact⟨x,rfl,h1⟩
 | _::_,_,i+1,_,h,e=>by
  simp only[DatsS]at h;obtain⟨x,r,rfl,h1,h2⟩:=h;simpa using DatsS.get (i:=i) h2 (by simpa using e)
theorem DatsS.cons{S:Addr->Prop}{H:Hp}{d:PyData}{ds:List PyData}{x:V}{xs:List V}(h:DatS S H d x)(k:DatsS S H ds xs):DatsS S H (d::ds) (x::xs):=by
 simp only[DatsS];exact⟨x,xs,rfl,h,k⟩
theorem DatsS.nil{S:Addr->Prop}{H:Hp}:DatsS S H [] []:=by simp only[DatsS]
theorem DatsS.take{S:Addr->Prop}{H:Hp}:∀{ds:List PyData} {xs:List V} (n:Nat),DatsS S H ds xs->DatsS S H (ds.take n) (xs.take n)
 | _,_,0,_=>.nil
 | [],_,n+1,h=>by simp only[DatsS]at h;subst h;exact .nil
 | _::_,_,n+1,h=>by
  simp only[DatsS]at h;obtain⟨x,r,rfl,h1,h2⟩:=h;exact .cons h1 (DatsS.take n h2)
theorem DatsS.drop{S:Addr->Prop}{H:Hp}:∀{ds:List PyData} {xs:List V} (n:Nat),DatsS S H ds xs->DatsS S H (ds.drop n) (xs.drop n)
 | _,_,0,h=>h
 | [],_,n+1,h=>by simp only[DatsS]at h;subst h;exact .nil
 | _::_,_,n+1,h=>by
  simp only[DatsS]at h;obtain⟨x,r,rfl,h1,h2⟩:=h;exact DatsS.drop n h2
section
variable{K:W.Frag}{Er:Str->Hp->Prop}{X:Cx}{e a b c:Expr}{m ma mb mc:Env'->Mx D}{pos:Pos}
noncomputable def slW:Option (Option Sl)->Option D
 | some (some (Sl.val d))=>some d
 | some (some (Sl.own x))=>some (.p x)
 | _=>none
noncomputable def slV:Option (Option Sl)->Option D
 | some (some (Sl.val d))=>some d
 | _=>none
noncomputable def mVar(i:Nat):Env'->Mx D:=fun ρ=>Mx.opt (slW ρ[i]?)
noncomputable def mVal(i:Nat):Env'->Mx D:=fun ρ=>Mx.opt (slV ρ[i]?)
theorem zH{i:Nat}(h:PE X e (tVar i)):DW K Er X e (mVar i):=h.imp fun σ H Q ⟨g,ow,ρ,n,f,q⟩=>by
 unfold mVar at q;cases e:ρ[i]? with
 | none=>rw[e]at q;exact q.elim
 | some o=>
  cases o with
  | none=>rw[e]at q;exact q.elim
  | some sl=>
   rw[e]at q;cases sl with
   | val d=>
    obtain⟨v,e1,r⟩:=f.val _ _ e;exact⟨v,e1,q v H (Kp.refl _ _) f.twn (r.one fun _ z=>z.elim .inl fun z=>.inr (.inl z))⟩
   | own x=>
    obtain⟨a,_,e1,r⟩:=f.own _ _ e;exact⟨_,e1,q _ H (Kp.refl _ _) f.twn r⟩
   | deep kl=>exact q.elim
theorem zF{i:Nat}(h:PE X e (tVar i)):DE K Er X e (mVal i):=h.imp fun σ H Q ⟨g,ow,ρ,n,f,q⟩=>by
 unfold mVal at q;cases e:ρ[i]? with
 | none=>rw[e]at q;exact q.elim
 | some o=>
  cases o with
  | none=>rw[e]at q;exact q.elim
  | some sl=>
   rw[e]at q;cases sl with
   | val d=>
    obtain⟨v,e1,r⟩:=f.val _ _ e;exact⟨v,e1,q v H (Kp.refl _ _) f.twn r⟩
   | own x=>exact q.elim
   | deep kl=>exact q.elim
noncomputable def mC(x:PyData):Env'->Mx D:=fun _=>pure (.p x)
theorem de_c{v:V}{x:PyData}(h:PE X e (tC v))(hx:∀S H,DatS S H x v):DE K Er X e (mC x):=h.imp fun σ H Q ⟨g,ow,ρ,n,f,q⟩=>q v H (Kp.refl _ _) f.twn (hx _ _)
theorem zM{i j pos}:DE K Er X (.Constant (.int i) j pos) (mC (.int i)):=de_c z24 fun _ _=>by simp only[DatS]
theorem xx{i j pos}:DE K Er X (.Constant (.bool i) j pos) (mC (.bool i)):=de_c zAf fun _ _=>by simp only[DatS]
theorem xV{j pos}:DE K Er X (.Constant .none j pos) (mC .none):=de_c z8w fun _ _=>by simp only[DatS]
theorem z8q{x j pos}:DE K Er X (.Constant (.str x) j pos) (mC (.str x)):=de_c zAl fun _ _=>by simp only[DatS]
theorem z5s{i:Int}(h:PE X e (tC (.int i))):DE K Er X e (mC (.int i)):=de_c h fun _ _=>by simp only[DatS]
noncomputable def onP{α:Type}(f:PyData->Option α):D->Option α
 | .p x=>f x
 | _=>none
noncomputable def onP2{α:Type}(f:PyData->PyData->Option α):D->D->Option α
 | .p x,.p y=>f x y
 | _,_=>none
noncomputable def onB:D->Option Bool
 | .p (.bool b)=>some b
 | _=>none
theorem zf{α:Type}{f:PyData->Option α}{d:D}{r:α}(h:onP f d=some r):∃x,d=.p x/\f x=some r:=by
 cases d with
 | p x=>exact⟨x,rfl,h⟩
 | _=>cases h
theorem yX{α:Type}{f:PyData->PyData->Option α}{d e:D}{r:α}(h:onP2 f d e=some r):∃x y,d=.p x/\e=.p y/\f x y=some r:=by
 cases d with
 | p x=>
  cases e with
  | p y=>exact⟨x,y,rfl,rfl,h⟩
  | _=>cases h
 | _=>cases h
theorem z3Q{d:D}{b:Bool}(h:onB d=some b):d=.p (.bool b):=by
 cases d with
 | p x=>cases x<;>simp only[onB]at h<;>cases h;rfl
 | _=>cases h
noncomputable def mBin(f:PyData->PyData->Option PyData)(a b:Env'->Mx D):Env'->Mx D:=fun ρ=>a ρ >>= fun x=>b ρ >>= fun y=>Mx.opt ((onP2 f x y).map D.p)
theorem yn{α β γ:Type}{R:Hp->Hp->β->γ->Prop}{g:Gh}{H:Hp}{o:Option α}{k:α->Mx β}{n:Wd}{Q:γ->Hp->Prop}(h:AftG R g Er H ((Mx.opt o >>= k) n) Q):∃a,o=some a/\AftG R g Er H (k a n) Q:=by
 cases o with
 | none=>exact h.elim
 | some a=>exact⟨a,rfl,h⟩
theorem z0A{α γ:Type}{R:Hp->Hp->α->γ->Prop}{g:Gh}{H:Hp}{o:Option α}{n:Wd}{Q:γ->Hp->Prop}(h:AftG R g Er H (Mx.opt o n) Q):∃a,o=some a/\∀v H',Kp g.T H H'->Twn g H' n->R H H' a v->Q v H':=by
 cases o with
 | none=>exact h.elim
 | some a=>exact⟨a,rfl,h⟩
noncomputable def rD2(f:PyData->PyData->Option PyData):R2:=fun x y H Q=>∃S d e r,(∀a,S a->H a≠none)/\Dat1 (fun _=>False) S H d x/\Dat1 (fun _=>False) S H e y/\f d e=some r/\∀v H',Same H H'->DatS S H' r v->Q v H'
theorem Same.kp{g:Gh}{H H':Hp}(s:Same H H'):Kp g.T H H':=fun b o h _=>s b o h
theorem Same.twn{g:Gh}{H H':Hp}{n:Wd}(s:Same H H')(t:Twn g H n):Twn g H' n:=t.keep (fun b xs h=>s _ _ h) fun b hb=>by
 cases e:H b with
 | none=>exact absurd e (t.dom hb)
 | some o=>exact s _ _ e
theorem Rep1.kp{g:Gh}{S:Addr->Prop}{H H':Hp}{d:D}{v:V}(k:Kp g.T H H')(hT:∀a,g.U a->S a)(h:Rep1 g S H d v):Rep1 g S H' d v:=by
 cases d with
 | p x=>exact Dat1.kp k (fun a z=>.inr z) hT h
 | scr=>exact h
 | town=>exact h
 | obj=>exact h
 | fn=>exact h
 | exc a C=>exact⟨h.1,h.2.1,k _ _ h.2.2 (.inl fun z=>h.2.1 (hT a (.inr z)))⟩
theorem Gh.ts{g:Gh}{ow:Ix->Option Addr}:∀a,g.T a->g.S ow a:=fun _ z=>.inr (.inl z)
theorem Gh.us{g:Gh}{ow:Ix->Option Addr}:∀a,g.U a->g.S ow a:=fun _ z=>z.elim .inl fun z=>.inr (.inl z)
theorem xZ{g:Gh}{H H1:Hp}{n:Wd}(k:Kp g.T H H1)(t:Twn g H1 n){b:Addr}(h:H1 b=none):H b=none:=by
 cases z:H b with
 | none=>rfl
 | some o=>
  by_cases hT:g.T b
  ·exact absurd h (t.dom hT)
  ·rw[k b o z (.inl hT)]at h;cases h
theorem ww:∀(g:Gh) (S:Addr->Prop) (H H1 H2:Hp) (a:PyData) (v:V) (n:Wd),Kp g.T H H1->Twn g H1 n->RF g S H1 H2 a v->RF g S H H2 a v:=fun g S H H1 H2 a v n k t ⟨b,e,hb,d⟩=>⟨b,e,xZ k t hb,d⟩
theorem rd2{α β:Type}{R':RG α β}{f:D->D->Mx α}{σ:St}{H:Hp}{Q:β->Hp->Prop}{Z:V->V->Hp->Prop}
  (h:rdG R' K Er (fun ρ=>ma ρ >>= fun x=>mb ρ >>= fun y=>f x y) σ H Q)
  (hR':∀g S H H1 H2 a v n,Kp g.T H H1->Twn g H1 n->R' g S H1 H2 a v->R' g S H H2 a v)
  (k:∀g ow ρ n x y v u H2,Frm K g ow ρ n σ H2->Rep1 g (g.S ow) H2 x v->Rep1 g (g.S ow) H2 y u->AftG (R' g (g.S ow)) g Er H2 (f x y n) Q->Z v u H2) :
  rdG RW K Er ma σ H fun v H1=>rdG RW K Er mb σ H1 fun u H2=>Z v u H2:=by
 obtain⟨g,ow,ρ,n,fr,q⟩:=h;refine⟨g,ow,ρ,n,fr,?_⟩;refine AftG.bind q fun x n1 v H1 k1 t1 r1 c1=>?_;have fr1:=fr.kp k1 t1;refine⟨g,ow,ρ,n1,fr1,?_⟩;refine AftG.bind (c1 (R3:=R' g (g.S ow)) fun H2 b u r=>hR' _ _ _ _ _ _ _ _ k1 t1 r) fun y n2 u H2 k2 t2 r2 c2=>?_;exact k g ow ρ n2 x y v u H2 (fr1.kp k2 t2) (Rep1.kp k2 Gh.us r1) r2 (c2 (R3:=R' g (g.S ow)) fun H3 b u r=>hR' _ _ _ _ _ _ _ _ k2 t2 r)
theorem rd1{α β γ δ:Type}{R:RG γ δ}{R':RG α β}{m:Env'->Mx γ}{f:Env'->γ->Mx α}{σ:St}{H:Hp}{Q:β->Hp->Prop}{Z:δ->Hp->Prop}
  (h:rdG R' K Er (fun ρ=>m ρ >>= f ρ) σ H Q)
  (hR':∀g S H H1 H2 a v n,Kp g.T H H1->Twn g H1 n->R' g S H1 H2 a v->R' g S H H2 a v)
  (k:∀g ow ρ n x v H0 H2,Frm K g ow ρ n σ H2->Kp g.T H0 H2->R g (g.S ow) H0 H2 x v->AftG (R' g (g.S ow)) g Er H2 (f ρ x n) Q->Z v H2) :
  rdG R K Er m σ H Z:=by
 obtain⟨g,ow,ρ,n,fr,q⟩:=h;refine⟨g,ow,ρ,n,fr,?_⟩;refine AftG.bind q fun x n1 v H1 k1 t1 r1 c1=>?_;exact k g ow ρ n1 x v H H1 (fr.kp k1 t1) k1 r1 (c1 (R3:=R' g (g.S ow)) fun H2 b u r=>hR' _ _ _ _ _ _ _ _ k1 t1 r)
theorem yk{g:Gh}{S:Addr->Prop}{H:Hp}{o:Option PyData}{n:Wd}{Q:VK}(t:Twn g H n)(h:AftG (RE g S) g Er H (Mx.opt (o.map D.p) n) Q):∃r,o=some r/\∀v H',Same H H'->DatS S H' r v->Q v H':=by
 cases o with
 | none=>exact h.elim
 | some r=>exact⟨r,rfl,fun v H' s d=>h v H' s.kp (s.twn t) d⟩
theorem zk{op:Operator}{f:PyData->PyData->Option PyData}(ho:OpR X (binaryOp op) (rD2 f))(ha:DW K Er X a ma)(hb:DW K Er X b mb):DE K Er X (.BinOp a op b pos) (mBin f ma mb):=
 (z6z ho ha hb).imp fun σ H Q h=>rd2 (Z:=fun v u H2=>rD2 f v u H2 Q) h (fun _ _ _ _ _ _ _ _ _ _ r=>r) fun g ow ρ n x y v u H2 fr r1 r2 q=>by
  obtain⟨r,e,q2⟩:=yk fr.twn q;obtain⟨x,y,rfl,rfl,e⟩:=yX e;exact⟨g.S ow,x,y,r,fr.dom,Dat1.weak r1,Dat1.weak r2,e,q2⟩
theorem xU{op:CmpOp}{f:PyData->PyData->Option PyData}(ho:OpR X (compareOp op) (rD2 f))(ha:DW K Er X a ma)(hb:DW K Er X b mb)(hm:behindInMarks op b=false):DE K Er X (.Compare a [op] [b] pos) (mBin f ma mb):=
 (z5w ho ha hb hm).imp fun σ H Q h=>rd2 (Z:=fun v u H2=>rD2 f v u H2 Q) h (fun _ _ _ _ _ _ _ _ _ _ r=>r) fun g ow ρ n x y v u H2 fr r1 r2 q=>by
  obtain⟨r,e,q2⟩:=yk fr.twn q;obtain⟨x,y,rfl,rfl,e⟩:=yX e;exact⟨g.S ow,x,y,r,fr.dom,Dat1.weak r1,Dat1.weak r2,e,q2⟩
end
theorem Same.new{H:Hp}{p:Addr}{o:HO}(h:H p=none):Same H (upd H p o):=fun b x e=>by rw[zI (zb e h)];exact e
theorem DatsS.same{S:Addr->Prop}{H H':Hp}(s:Same H H'){ds:List PyData}{xs:List V}(h:DatsS S H ds xs):DatsS S H' ds xs:=DatsS.kp (Kp.of s) (fun _ z=>.inl z) h
theorem wo{S:Addr->Prop}{H:Hp}{p:Addr}{ds:List PyData}{xs:List V}(h:H p=some (.tup xs))(k:DatsS S H ds xs):DatS S H (.tuple ds) (.ref p):=by
 simp only[DatS];exact⟨p,xs,rfl,h,k⟩
theorem zA3{S:Addr->Prop}{H:Hp}{p:Addr}{ds:List PyData}{xs:List V}(hp:¬S p)(h:H p=some (.lst xs))(k:DatsS S H ds xs):DatS S H (.list ds) (.ref p):=by
 simp only[DatS];exact⟨p,xs,rfl,hp,h,k⟩
theorem z3J{S:Addr->Prop}{H:Hp}{p:Addr}{ds:List PyData}{xs:List V}(h:H p=none)(k:DatsS S H ds xs):DatS S (upd H p (.tup xs)) (.tuple ds) (.ref p):=wo zG (k.same (Same.new h))
theorem xt{S:Addr->Prop}{H:Hp}{p:Addr}{ds:List PyData}{xs:List V}(hS:∀a,S a->H a≠none)(h:H p=none)(k:DatsS S H ds xs):DatS S (upd H p (.lst xs)) (.list ds) (.ref p):=
 zA3 (fun z=>hS p z h) zG (k.same (Same.new h))
noncomputable abbrev N0:Addr->Prop:=fun _=>False
theorem y0{T S:Addr->Prop}{H:Hp}{i:Int}{x:V}(h:Dat1 T S H (.int i) x):x=.int i:=by simpa only[Dat1,DatS]using h
theorem z1f{T S:Addr->Prop}{H:Hp}{i:Str}{x:V}(h:Dat1 T S H (.str i) x):x=.str i:=by simpa only[Dat1,DatS]using h
theorem z7d{T S:Addr->Prop}{H:Hp}{i:Bool}{x:V}(h:Dat1 T S H (.bool i) x):x=.bl i:=by simpa only[Dat1,DatS]using h
theorem z6M{T S:Addr->Prop}{H:Hp}{x:V}(h:Dat1 T S H .none x):x=.non:=by simpa only[Dat1,DatS]using h
theorem yj{T S:Addr->Prop}{H:Hp}{ds:List PyData}{x:V}(h:Dat1 T S H (.tuple ds) x):∃a xs,x=.ref a/\H a=some (.tup xs)/\DatsS S H ds xs:=by simpa only[Dat1,DatS]using h
theorem ym{T S:Addr->Prop}{H:Hp}{ds:List PyData}{x:V}(h:Dat1 T S H (.list ds) x):∃a xs,x=.ref a/\H a=some (.lst xs)/\DatsS S H ds xs:=by
 simp only[Dat1]at h;obtain⟨a,xs,e,_,h1,h2⟩:=h;exact⟨a,xs,e,h1,h2⟩
theorem z0J{T S:Addr->Prop}{H:Hp}{ds:List (PyData×PyData)}{x:V}(h:Dat1 T S H (.dict ds) x):∃a ks,x=.ref a/\DctAt H a ks/\DctS S H ds ks:=by
 simp only[Dat1]at h;obtain⟨a,xs,e,_,h1,h2⟩:=h;exact⟨a,xs,e,h1,h2⟩
theorem di{S:Addr->Prop}{H:Hp}{i:Int}:DatS S H (.int i) (.int i):=by simp only[DatS]
theorem db{S:Addr->Prop}{H:Hp}{i:Bool}:DatS S H (.bool i) (.bl i):=by simp only[DatS]
theorem rb{g:Gh}{S:Addr->Prop}{H:Hp}{i:Bool}:Rep g S H (.p (.bool i)) (.bl i):=(db:DatS S H (.bool i) (.bl i))
theorem dn{S:Addr->Prop}{H:Hp}:DatS S H .none .non:=by simp only[DatS]
theorem dstr{S:Addr->Prop}{H:Hp}{i:Str}:DatS S H (.str i) (.str i):=by simp only[DatS]
noncomputable def lim:Nat:=1000000
noncomputable def fAdd:PyData->PyData->Option PyData
 | .int i,.int j=>some (.int (i+j))
 | .tuple xs,.tuple ys=>if xs.length+ys.length<=lim then some (.tuple (xs++ys))else none
 | .list xs,.list ys=>if xs.length+ys.length<=lim then some (.list (xs++ys))else none
 | .str x,.str y=>if x.length+y.length<=lim then some (.str (x++y))else none
 | _,_=>none
noncomputable def fSub:PyData->PyData->Option PyData
 | .int i,.int j=>some (.int (i - j))
 | _,_=>none
noncomputable def fMod:PyData->PyData->Option PyData
 | .int i,.int j=>if 0<j then some (.int (i % j))else none
 | _,_=>none
noncomputable def fMul:PyData->PyData->Option PyData
 | .int i,.int j=>if (-(2 ^ 64)<i/\i<2 ^ 64)\/(-(2 ^ 64)<j/\j<2 ^ 64)then some (.int (i*j))else none
 | .tuple xs,.int k=>if 0<k/\k<1000000/\xs.length*k.toNat<=lim then some (.tuple (List.replicate k.toNat xs).flatten)else none
 | .list xs,.int k=>if 0<=k/\k<1000000/\xs.length*k.toNat<=lim then some (.list (List.replicate k.toNat xs).flatten)else none
 | _,_=>none
theorem DatsS.rep{S:Addr->Prop}{H:Hp}{ds:List PyData}{xs:List V}(h:DatsS S H ds xs):∀k,DatsS S H (List.replicate k ds).flatten (List.replicate k xs).flatten
 | 0=>.nil
 | k+1=>by
  rw[List.replicate_succ,List.replicate_succ,List.flatten_cons,List.flatten_cons];exact h.append (DatsS.rep h k)
section
variable{X:Cx}
theorem zx:OpR X (binaryOp .Add) (rD2 fAdd):=(op_add.or (op_catTT.or (op_cat.or z4K))).imp fun x y H Q ⟨S,d,e,r,hS,h1,h2,hf,q⟩=>by
 cases d<;>cases e<;>simp only[fAdd]at hf<;>try (cases hf;done)
 ·cases hf;exact .inl ⟨_,_,y0 h1,y0 h2,q _ _ (Same.refl _) di⟩
 ·split at hf
  next hl=>
   cases hf;exact .inr (.inr (.inr ⟨_,_,z1f h1,z1f h2,yt hl,q _ _ (Same.refl _) dstr⟩))
  next=>cases hf
 ·split at hf
  next hl=>
   cases hf;obtain⟨a,xs,e1,g1,k1⟩:=ym h1;obtain⟨b,ys,e2,g2,k2⟩:=ym h2;exact .inr (.inr (.inl ⟨a,b,xs,ys,e1,e2,g1,g2,yt (by rw[<-k1.length,<-k2.length];exact hl),fun p hp=>q _ _ (Same.new hp) (xt hS hp (k1.append k2))⟩))
  next=>cases hf
 ·split at hf
  next hl=>
   cases hf;obtain⟨a,xs,e1,g1,k1⟩:=yj h1;obtain⟨b,ys,e2,g2,k2⟩:=yj h2;exact .inr (.inl ⟨a,b,xs,ys,e1,e2,g1,g2,yt (by rw[<-k1.length,<-k2.length];exact hl),fun p H' s hp=>q _ _ s (wo hp ((k1.append k2).same s))⟩)
  next=>cases hf
theorem z2k:OpR X (binaryOp .Sub) (rD2 fSub):=op_sub.imp fun x y H Q ⟨S,d,e,r,hS,h1,h2,hf,q⟩=>by
 cases d<;>cases e<;>simp only[fSub]at hf<;>try (cases hf;done)
 cases hf;exact⟨_,_,y0 h1,y0 h2,q _ _ (Same.refl _) di⟩
theorem z0k:OpR X (binaryOp .Mod) (rD2 fMod):=op_mod.imp fun x y H Q ⟨S,d,e,r,hS,h1,h2,hf,q⟩=>by
 cases d<;>cases e<;>simp only[fMod]at hf<;>try (cases hf;done)
 split at hf
 next hl=>cases hf;exact⟨_,_,y0 h1,y0 h2,hl,q _ _ (Same.refl _) di⟩
 next=>cases hf
theorem uk:OpR X (binaryOp .Mult) (rD2 fMul):=(op_mul.or (op_repTT.or zC0)).imp fun x y H Q ⟨S,d,e,r,hS,h1,h2,hf,q⟩=>by
 cases d<;>cases e<;>simp only[fMul]at hf<;>try (cases hf;done)
 ·split at hf
  next hl=>cases hf;exact .inl ⟨_,_,y0 h1,y0 h2,hl,q _ _ (Same.refl _) di⟩
  next=>cases hf
 ·split at hf
  next hl=>
   cases hf;obtain⟨a,xs,e1,g1,k1⟩:=ym h1;exact .inr (.inr ⟨a,_,xs,e1,y0 h2,g1,by omega,by omega,yt (by rw[<-k1.length];exact hl.2.2),fun p hp=>q _ _ (Same.new hp) (xt hS hp (k1.rep _))⟩)
  next=>cases hf
 ·split at hf
  next hl=>
   cases hf;obtain⟨a,xs,e1,g1,k1⟩:=yj h1;exact .inr (.inl ⟨a,_,xs,e1,y0 h2,g1,hl.1,hl.2.1,yt (by rw[<-k1.length];exact hl.2.2),fun p H' s hp=>q _ _ s (wo hp ((k1.rep _).same s))⟩)
  next=>cases hf
noncomputable def zn:List PyData->Option (List Int)
 | []=>some []
 | .int i::r=>(zn r).map (i::·)
 | _=>none
theorem yT:∀{ds:List PyData} {ns:List Int},zn ds=some ns->ds=ns.map PyData.int
 | [],ns,h=>by simp only[zn]at h;cases h;rfl
 | d::r,ns,h=>by
  cases d<;>simp only[zn]at h<;>try (cases h;done)
  cases e:zn r with
  | none=>rw[e]at h;cases h
  | some ms=>rw[e]at h;cases h;rw[List.map_cons,yT e]
theorem DatsS.ints{S:Addr->Prop}{H:Hp}:∀{ns:List Int} {xs:List V},DatsS S H (ns.map PyData.int) xs->xs=ns.map V.int
 | [],xs,h=>by simpa only[List.map_nil,DatsS]using h
 | n::ns,xs,h=>by
  simp only[List.map_cons,DatsS]at h;obtain⟨x,r,rfl,h1,h2⟩:=h;simp only[DatS]at h1;subst h1;rw[List.map_cons,DatsS.ints h2]
theorem z1W{S:Addr->Prop}{H:Hp}:∀(ns:List Int),DatsS S H (ns.map PyData.int) (ns.map V.int)
 | []=>.nil
 | _::ns=>.cons di (z1W ns)
noncomputable def fLt:PyData->PyData->Option PyData
 | .int i,.int j=>some (.bool (decide (i<j)))
 | .tuple xs,.tuple ys=>match zn xs,zn ys with
  | some ns,some ms=>some (.bool (HT.lexLt ns ms))
  | _,_=>none
 | _,_=>none
noncomputable def fCmp(p:Int->Int->Bool):PyData->PyData->Option PyData
 | .int i,.int j=>some (.bool (p i j))
 | _,_=>none
theorem z2C(hu:X.A.units<cLine):OpR X (compareOp .Lt) (rD2 fLt):=(op_lt.or (zBy hu)).imp fun x y H Q ⟨S,d,e,r,hS,h1,h2,hf,q⟩=>by
 cases d<;>cases e<;>simp only[fLt]at hf<;>try (cases hf;done)
 ·cases hf;exact .inl ⟨_,_,y0 h1,y0 h2,q _ _ (Same.refl _) db⟩
 ·split at hf
  next ns ms e1 e2=>
   cases hf;obtain⟨a,xs,f1,g1,k1⟩:=yj h1;obtain⟨b,ys,f2,g2,k2⟩:=yj h2;rw[yT e1]at k1;rw[yT e2]at k2;rw[k1.ints]at g1;rw[k2.ints]at g2;exact .inr ⟨a,b,ns,ms,f1,f2,SqT.of g1,SqT.of g2,q _ _ (Same.refl _) db⟩
  next=>cases hf
theorem xF{f:Value->Value->Sem Value}{p:Int->Int->Bool}(h:OpR X f (rI0 fun i j=>.bl (p i j))):OpR X f (rD2 (fCmp p)):=h.imp fun x y H Q ⟨S,d,e,r,hS,h1,h2,hf,q⟩=>by
 cases d<;>cases e<;>simp only[fCmp]at hf<;>try (cases hf;done)
 cases hf;exact⟨_,_,y0 h1,y0 h2,q _ _ (Same.refl _) db⟩
mutual
theorem DatS.datV{S:Addr->Prop}{H:Hp}:∀{d:PyData} {v:V},d.canLay0=true->DatS S H d v->DatV H d v
 | .none,_,_,h=>by simp only[DatS,DatV]at h |-;exact h
 | .bool _,_,_,h=>by simp only[DatS,DatV]at h |-;exact h
 | .int _,_,_,h=>by simp only[DatS,DatV]at h |-;exact h
 | .str _,_,_,h=>by simp only[DatS,DatV]at h |-;exact h
 | .list ds,_,c,h=>by
  simp only[DatS,DatV]at h |-;obtain⟨a,xs,e,_,h1,h2⟩:=h;exact⟨a,xs,e,h1,DatsS.datV (by simpa only[PyData.canLay0]using c) h2⟩
 | .tuple ds,_,c,h=>by
  simp only[DatS,DatV]at h |-;obtain⟨a,xs,e,h1,h2⟩:=h;exact⟨a,xs,e,h1,DatsS.datV (by simpa only[PyData.canLay0]using c) h2⟩
 | .dict _,_,c,_=>by simp[PyData.canLay0]at c
theorem DatsS.datV{S:Addr->Prop}{H:Hp}:∀{ds:List PyData} {xs:List V},PyData.canLayAll0 ds=true->DatsS S H ds xs->DatAll H ds xs
 | [],_,_,h=>by simp only[DatsS,DatAll]at h |-;exact h
 | _::_,_,c,h=>by
  simp only[DatsS,DatAll]at h |-;obtain⟨x,r,e,h1,h2⟩:=h;simp only[PyData.canLayAll0,Bool.and_eq_true]at c;exact⟨x,r,e,DatS.datV c.1 h1,DatsS.datV c.2 h2⟩
end
theorem Dat1.datV{T S:Addr->Prop}{H:Hp}{d:PyData}{v:V}(c:d.canLay0=true)(h:Dat1 T S H d v):DatV H d v:=by
 cases d<;>simp only[Dat1]at h
 case list ds=>
  obtain⟨a,xs,e,_,h1,h2⟩:=h;simp only[DatV];exact⟨a,xs,e,h1,DatsS.datV (by simpa only[PyData.canLay0]using c) h2⟩
 case dict=>simp[PyData.canLay0]at c
 all_goals exact DatS.datV c h
noncomputable def fEq(neg:Bool)(d e:PyData):Option PyData:=if d.canLay0=true/\e.canLay0=true/\min d.depth e.depth<=60 then some (.bool (if neg then !PyData.eqv d e else PyData.eqv d e))else none
theorem xl(hu:X.A.units+64<cLine):OpR X (compareOp .Eq) (rD2 (fEq false)):=(zBT hu).imp fun x y H Q ⟨S,d,e,r,hS,h1,h2,hf,q⟩=>by
 unfold fEq at hf;split at hf
 next c=>cases hf;exact⟨d,e,h1.datV c.1,h2.datV c.2.1,c.1,c.2.1,c.2.2,q _ _ (Same.refl _) db⟩
 next=>cases hf
theorem wS(hu:X.A.units+64<cLine):OpR X (compareOp .NotEq) (rD2 (fEq true)):=(zAi hu).imp fun x y H Q ⟨S,d,e,r,hS,h1,h2,hf,q⟩=>by
 unfold fEq at hf;split at hf
 next c=>cases hf;exact⟨d,e,h1.datV c.1,h2.datV c.2.1,c.1,c.2.1,c.2.2,q _ _ (Same.refl _) db⟩
 next=>cases hf
end
end L2
namespace L2
open PySem PySem.Spec PyProof.Rows
noncomputable def keyD:PyData->Option Key
 | .int i=>some (.inl i)
 | .str s=>some (.inr s)
 | _=>none
noncomputable def z1S:List PyData->Option (List Key)
 | []=>some []
 | d::r=>match keyD d,z1S r with
  | some k,some l=>some (k::l)
  | _,_=>none
theorem z9Z{d:PyData}{k:Key}(h:keyD d=some k):d=kD k:=by
 cases d<;>simp only[keyD]at h<;>cases h<;>rfl
theorem uK:∀{ds:List PyData} {ks:List Key},z1S ds=some ks->ds=ks.map kD
 | [],ks,h=>by simp only[z1S]at h;cases h;rfl
 | d::r,ks,h=>by
  simp only[z1S]at h;split at h
  next k l e1 e2=>cases h;rw[List.map_cons,z9Z e1,uK e2]
  next=>cases h
theorem z2D{S:Addr->Prop}{H:Hp}{k:Key}{v:V}(h:DatS S H (kD k) v):v=kV k:=by
 cases k<;>(simp only[kD,DatS]at h;exact h)
theorem z11{S:Addr->Prop}{H:Hp}:∀{ks:List Key} {xs:List V},DatsS S H (ks.map kD) xs->xs=ks.map kV
 | [],xs,h=>by simpa only[List.map_nil,DatsS]using h
 | n::ns,xs,h=>by
  simp only[List.map_cons,DatsS]at h;obtain⟨x,r,rfl,h1,h2⟩:=h;rw[List.map_cons,z2D h1,z11 h2]
theorem z6p(a b:Key):PyData.eqv (kD a) (kD b)=decide (a=b):=by
 cases a<;>cases b<;>simp[kD,PyData.eqv]
 all_goals (rw[Bool.eq_iff_iff];simp)
theorem z53:∀(a b:List Key),PyData.eqvAll (a.map kD) (b.map kD)=decide (a=b)
 | [],[]=>by simp[PyData.eqvAll]
 | [],_::_=>by simp[PyData.eqvAll]
 | _::_,[]=>by simp[PyData.eqvAll]
 | a::r,b::s=>by
  simp only[List.map_cons,PyData.eqvAll,z6p,z53 r s];rw[Bool.eq_iff_iff];simp
theorem z8V(a b:List Key):PyData.eqv (kT a) (kT b)=decide (a=b):=by
 simp only[kT,PyData.eqv];exact z53 a b
noncomputable def xz:PyData->Bool
 | .tuple _=>true
 | _=>false
noncomputable def wE(kvs:List (PyData×PyData)):PyData->Bool
 | .tuple ds=>(z1S ds).isSome && kvs.all (fun kv=>xz kv.1) && !kvs.isEmpty
 | x=>(keyD x).isSome && kvs.all (fun kv=>!xz kv.1) && !kvs.isEmpty
noncomputable def xy(kvs:List (PyData×PyData))(x:PyData):Option PyData:=(kvs.find? fun kv=>PyData.eqv kv.1 x).map (·.2)
theorem DctS.find{S:Addr->Prop}{H:Hp}{x:PyData}{κ:Type}[DecidableEq κ]{j:κ->PyData}(hj:∀a b,PyData.eqv (j a) (j b)=decide (a=b)){k:κ}(hx:x=j k):
  ∀{kvs:List (PyData×PyData)} {l:List (κ×V)},DctS S H kvs (l.map fun kv=>(j kv.1,kv.2))->(∃d v,xy kvs x=some d/\valV l k=some v/\DatS S H d v)\/(xy kvs x=none/\valV l k=none)
 | [],[],_=>.inr ⟨rfl,rfl⟩
 | [],_::_,h=>by simp[DctS]at h
 | (c,d)::r,[],h=>by simp[DctS]at h
 | (c,d)::r,(q,v)::s,h=>by
  simp only[DctS,List.map_cons]at h;obtain⟨y,t,e,h1,h2⟩:=h;cases e;by_cases e:q=k
  ·refine .inl ⟨d,v,?_,uP e,h1⟩;unfold xy;rw[List.find?_cons,show PyData.eqv (j q) x=true by rw[hx,hj];exact decide_eq_true e];rfl
  ·have ih:=DctS.find hj hx h2;have e1:xy ((j q,d)::r) x=xy r x:=by
    unfold xy;rw[List.find?_cons,show PyData.eqv (j q) x=false by rw[hx,hj];exact decide_eq_false e]
   rw[e1,uF (p:=(q,v)) e];exact ih
theorem DGet.kR{H:Hp}{a:Addr}{kvs:List (Key×V)}{k:Key}(e:Rd H a (.dK kvs)):DGet H a (kV k) (valV kvs k):=.inl ⟨kvs,k,e,rfl,rfl⟩
theorem DGet.tR{H:Hp}{a b:Addr}{kvs:List (List Key×V)}{k:List Key}(e:Rd H a (.dT kvs))(eb:H b=some (.tup (k.map kV))):DGet H a (.ref b) (valV kvs k):=.inr ⟨kvs,k,b,e,rfl,eb,rfl⟩
theorem z6m{S:Addr->Prop}{H:Hp}{a:Addr}{ks:List (PyData×V)}{kvs:List (PyData×PyData)}{x:PyData}{y:V}(h1:DctAt H a ks)(h2:DctS S H kvs ks)(hx:DatS S H x y)(ok:wE kvs x=true):
  (∃d v,xy kvs x=some d/\DGet H a y (some v)/\DatS S H d v)\/(xy kvs x=none/\DGet H a y none):=by
 have tk:∀{P:PyData->Bool} (hP:kvs.all (fun kv=>P kv.1)=true) (hn:kvs.isEmpty=false) {κ:Type} {j:κ->PyData} {l:List (κ×V)},ks=l.map (fun kv=>(j kv.1,kv.2))->∃c,P (j c)=true:=fun{P} hP hn {κ j l} e=>by
  subst e;cases kvs with
  | nil=>cases hn
  | cons p r=>
   cases l with
   | nil=>obtain⟨_,_⟩:=p;simp[DctS]at h2
   | cons q s=>
    obtain⟨p1,p2⟩:=p;simp only[DctS,List.map_cons]at h2;obtain⟨_,_,e,_⟩:=h2;cases e;rw[List.all_cons,Bool.and_eq_true]at hP;exact⟨q.1,hP.1⟩
 have plain:∀k:Key,x=kD k->kvs.all (fun kv=>!xz kv.1)=true->kvs.isEmpty=false->(∃d v,xy kvs x=some d/\DGet H a y (some v)/\DatS S H d v)\/(xy kvs x=none/\DGet H a y none):=fun k e hA hn=>by
  have ey:y=kV k:=by rw[e]at hx;exact z2D hx
  rcases h1 with ⟨l,g,rfl⟩ | ⟨l,g,e2⟩
  ·rcases DctS.find (κ:=Key) (j:=kD) z6p e h2 with ⟨d,v,f1,f2,f3⟩ | ⟨f1,f2⟩
   ·exact .inl ⟨d,v,f1,by rw[ey,<-f2];exact DGet.kR g,f3⟩
   ·exact .inr ⟨f1,by rw[ey,<-f2];exact DGet.kR g⟩
  ·obtain⟨c,hc⟩:=tk (P:=fun d=>!xz d) hA hn e2;simp[kT,xz]at hc
 cases x with
 | tuple ds=>
  simp only[wE,Bool.and_eq_true,Bool.not_eq_true']at ok;obtain⟨⟨o1,o2⟩,o3⟩:=ok;obtain⟨k,ek⟩:=Option.isSome_iff_exists.mp o1;have ed:=uK ek;simp only[DatS]at hx;obtain⟨b,xs,rfl,hb,hxs⟩:=hx;rw[ed]at hxs;rw[z11 hxs]at hb;rcases h1 with ⟨l,g,e2⟩ | ⟨l,g,rfl⟩
  ·obtain⟨c,hc⟩:=tk (P:=xz) o2 o3 e2;cases c<;>simp[kD,xz]at hc
  ·rcases DctS.find (κ:=List Key) (j:=kT) z8V (k:=k) (x:=.tuple ds) (by rw[ed];rfl) h2 with ⟨d,v,f1,f2,f3⟩ | ⟨f1,f2⟩
   ·exact .inl ⟨d,v,f1,by rw[<-f2];exact DGet.tR g hb,f3⟩
   ·exact .inr ⟨f1,by rw[<-f2];exact DGet.tR g hb⟩
 | int i=>
  simp only[wE,Bool.and_eq_true,Bool.not_eq_true']at ok;exact plain (.inl i) rfl ok.1.2 ok.2
 | str i=>
  simp only[wE,Bool.and_eq_true,Bool.not_eq_true']at ok;exact plain (.inr i) rfl ok.1.2 ok.2
 | none=>simp[wE,keyD]at ok
 | bool _=>simp[wE,keyD]at ok
 | list _=>simp[wE,keyD]at ok
 | dict _=>simp[wE,keyD]at ok
theorem Dat1.key{T S:Addr->Prop}{H:Hp}{kvs:List (PyData×PyData)}{x:PyData}{y:V}(h:Dat1 T S H x y)(ok:wE kvs x=true):DatS S H x y:=by
 cases x<;>simp only[Dat1]at h<;>first | exact h | simp[wE,keyD]at ok
noncomputable def fIn(neg:Bool):PyData->PyData->Option PyData
 | x,.list ds=>if x.canLay0=true/\PyData.canLayAll0 ds=true/\x.depth<=60 then some (.bool (if neg then !(ds.any fun y=>PyData.eqv y x)else ds.any fun y=>PyData.eqv y x))else none
 | x,.tuple ds=>if x.canLay0=true/\PyData.canLayAll0 ds=true/\x.depth<=60 then some (.bool (if neg then !(ds.any fun y=>PyData.eqv y x)else ds.any fun y=>PyData.eqv y x))else none
 | x,.dict kvs=>if wE kvs x=true then some (.bool (if neg then !(xy kvs x).isSome else(xy kvs x).isSome))else none
 | _,_=>none
section
variable{X:Cx}
theorem z6b(hu:X.A.units+1<cLine):OpR X (compareOp .In) (fun y x H Q=>∃a o,x=.ref a/\DGet H a y o/\Q (.bl o.isSome) H):=by
 intro pins s σ H y x v u Q I ry rx h;obtain⟨a,o,rfl,g,q⟩:=h;obtain rfl:u=Value.ref a:=rx;exact d_in hu I g ry fun s3 I3=>⟨.bl o.isSome,H,I3,rfl,q⟩
theorem z1U(hu:X.A.units+1<cLine):OpR X (compareOp .NotIn) (fun y x H Q=>∃a o,x=.ref a/\DGet H a y o/\Q (.bl (!o.isSome)) H):=by
 intro pins s σ H y x v u Q I ry rx h;obtain⟨a,o,rfl,g,q⟩:=h;obtain rfl:u=Value.ref a:=rx;exact zAD hu I g ry fun s3 I3=>⟨.bl (!o.isSome),H,I3,rfl,q⟩
theorem z6N{neg:Bool}{x y:V}{H:Hp}{Q:VK}(h:rD2 (fIn neg) x y H Q):rInD neg x y H Q\/∃a o,y=.ref a/\DGet H a x o/\Q (.bl (if neg then !o.isSome else o.isSome)) H:=by
 obtain⟨S,d,e,r,hS,h1,h2,hf,q⟩:=h;cases e<;>simp only[fIn]at hf<;>try (cases hf;done)
 ·split at hf
  next c=>
   cases hf;obtain⟨a,xs,e1,g1,k1⟩:=ym h2;exact .inl ⟨d,_,h1.datV c.1,.inl (by simp only[DatV];exact⟨a,xs,e1,g1,k1.datV c.2.1⟩),c.1,c.2.1,c.2.2,q _ _ (Same.refl _) db⟩
  next=>cases hf
 ·split at hf
  next c=>
   cases hf;obtain⟨a,xs,e1,g1,k1⟩:=yj h2;exact .inl ⟨d,_,h1.datV c.1,.inr (by simp only[DatV];exact⟨a,xs,e1,g1,k1.datV c.2.1⟩),c.1,c.2.1,c.2.2,q _ _ (Same.refl _) db⟩
  next=>cases hf
 ·split at hf
  next c=>
   cases hf;obtain⟨a,ks,e1,g1,k1⟩:=z0J h2;rcases z6m g1 k1 (h1.key c) c with ⟨d',v,f1,f2,f3⟩ | ⟨f1,f2⟩
   ·rw[f1]at q;exact .inr ⟨a,_,e1,f2,q _ _ (Same.refl _) db⟩
   ·rw[f1]at q;exact .inr ⟨a,_,e1,f2,q _ _ (Same.refl _) db⟩
  next=>cases hf
theorem z8j(hu:X.A.units+64<cLine):OpR X (compareOp .In) (rD2 (fIn false)):=((zCH hu).or (z6b (by omega))).imp fun x y H Q h=>z6N h
theorem wd(hu:X.A.units+64<cLine):OpR X (compareOp .NotIn) (rD2 (fIn true)):=((z4x hu).or (z1U (by omega))).imp fun x y H Q h=>z6N h
noncomputable def fIs(neg:Bool):PyData->PyData->Option PyData
 | .none,.none=>some (.bool (!neg))
 | _,.none=>some (.bool neg)
 | _,_=>none
theorem zAP{T S:Addr->Prop}{H:Hp}{d:PyData}{x:V}(h:Dat1 T S H d x):(d=.none/\x=.non)\/(d≠.none/\x≠.non):=by
 cases d<;>simp only[Dat1,DatS]at h
 case none=>exact .inl ⟨rfl,h⟩
 all_goals refine .inr ⟨(by intro z;cases z),?_⟩
 all_goals first
  | (subst h;intro z;cases z)
  | (obtain⟨_,_,e,_⟩:=h;subst e;intro z;cases z)
theorem z5t{neg:Bool}{x y:V}{H:Hp}{Q:VK}(h:rD2 (fIs neg) x y H Q):y=.non/\Q (.bl (if neg then !decide (x=.non)else decide (x=.non))) H:=by
 obtain⟨S,d,e,r,hS,h1,h2,hf,q⟩:=h;cases e
 case none=>
  refine⟨z6M h2,?_⟩;rcases zAP h1 with ⟨rfl,rfl⟩ | ⟨n1,n2⟩
  ·simp only[fIs]at hf;cases hf
   have:=q _ _ (Same.refl _) db;cases neg<;>simpa using this
  ·have hf':some (PyData.bool neg)=some r:=by
    cases d<;>first | exact hf | exact absurd rfl n1
   cases hf'
   have:=q _ _ (Same.refl _) db;cases neg<;>simpa[n2]using this
 all_goals (cases d<;>simp only[fIs]at hf<;>cases hf)
theorem z3H:OpR X (compareOp .Is) (rD2 (fIs false)):=op_isN.imp fun x y H Q h=>z5t (neg:=false) h
theorem z2I:OpR X (compareOp .IsNot) (rD2 (fIs true)):=op_notN.imp fun x y H Q h=>z5t (neg:=true) h
noncomputable def fIx:PyData->PyData->Option PyData
 | .list ds,.int i=>atI ds i
 | .tuple ds,.int i=>atI ds i
 | .dict kvs,x=>if wE kvs x=true then xy kvs x else none
 | _,_=>none
theorem DatsS.at{S:Addr->Prop}{H:Hp}{ds:List PyData}{xs:List V}{i:Int}{d:PyData}(h:DatsS S H ds xs)(e:atI ds i=some d):∃v,atI xs i=some v/\DatS S H d v:=by
 unfold atI at e |-;rw[h.length]at e;cases q:ixN xs.length i with
 | none=>rw[q]at e;cases e
 | some j=>
  rw[q]at e;obtain⟨v,e1,e2⟩:=h.get (show ds[j]?=some d from e);exact⟨v,e1,e2⟩
theorem z9L(hu:X.A.units+1<cLine):IxR X (fun x y H Q=>∃a v,x=.ref a/\DGet H a y (some v)/\Q v H):=by
 intro value slice pins s σ H x y o i Q I rx ry h hs;obtain⟨a,v,rfl,g,q⟩:=h;obtain rfl:o=Value.ref a:=rx;have hT:=z2g I g;have h₂:=z5a (E:=X.xe) (Q:=EP X pins σ Q) hu I g ry fun w' s3 I3 rw'=>⟨v,H,I3,rw',q⟩;unfold subscriptTail;refine wpAny_bind ?_;rw[getitemInPython_of_ne hT.not_modules];refine wpAny_bind (wpAny_specialOf hT PySem.F.slot_dict_getitem.lookup ?_);have fin:wpAny (model X.prog X.w) X.A (subscripted slice false (.ref a) i) (fun r s₃=>wpAny (model X.prog X.w) X.A (letTemporaryGo value (.ref a) r >>= fun _=>pure r) (EP X pins σ Q) X.xe s₃) X.xe s:=by
  rw[hs];exact wpAny_operating (wpAny_mono h₂ (fun r s₃ h₃=>wpAny_bind (wpAny_letTemporaryGo (wpAny_pure h₃))) fun _ _ x=>x)
 first
  | exact wpAny_pure (wpAny_bind fin)
  | exact wpAny_bind (wpAny_pure (wpAny_bind fin))
  | exact wpAny_bind fin
theorem ix_D(hu:X.A.units+1<cLine):IxR X (rD2 fIx):=(ix_list.or (ix_tup.or (z9L hu))).imp fun x y H Q ⟨S,d,e,r,hS,h1,h2,hf,q⟩=>by
 cases d<;>try (simp only[fIx]at hf;cases hf;done)
 case list ds=>
  cases e<;>simp only[fIx]at hf<;>try (cases hf;done)
  obtain⟨a,xs,e1,g1,k1⟩:=ym h1;obtain⟨v,e2,r2⟩:=k1.at hf;exact .inl ⟨a,xs,_,v,e1,y0 h2,SqL.of g1,e2,q _ _ (Same.refl _) r2⟩
 case tuple ds=>
  cases e<;>simp only[fIx]at hf<;>try (cases hf;done)
  obtain⟨a,xs,e1,g1,k1⟩:=yj h1;obtain⟨v,e2,r2⟩:=k1.at hf;exact .inr (.inl ⟨a,xs,_,v,e1,y0 h2,SqT.of g1,e2,q _ _ (Same.refl _) r2⟩)
 case dict kvs=>
  have hf':(if wE kvs e=true then xy kvs e else none)=some r:=by cases e<;>exact hf
  split at hf'
  next c=>
   obtain⟨a,ks,e1,g1,k1⟩:=z0J h1;rcases z6m g1 k1 (h2.key c) c with ⟨d',v,f1,f2,f3⟩ | ⟨f1,f2⟩
   ·rw[f1]at hf';cases hf';exact .inr (.inr ⟨a,v,e1,f2,q _ _ (Same.refl _) f3⟩)
   ·rw[f1]at hf';cases hf'
  next=>cases hf'
end
section
variable{K:W.Frag}{Er:Str->Hp->Prop}{X:Cx}{e a b c:Expr}{es rest:List Expr}{m ma mb:Env'->Mx D}{mc mt:Env'->Mx Bool}{ms:Env'->Mx (List D)}{pos p2:Pos}
noncomputable def mUn(f:PyData->Option PyData)(m:Env'->Mx D):Env'->Mx D:=fun ρ=>m ρ >>= fun x=>Mx.opt ((onP f x).map D.p)
noncomputable def fNeg:PyData->Option PyData
 | .int i=>some (.int (-i))
 | _=>none
theorem z8Z(ha:DW K Er X a ma):DE K Er X (.UnaryOp .USub a pos) (mUn fNeg ma):=(zC3 z8O ha).imp fun σ H Q h=>rd1 h (fun _ _ _ _ _ _ _ _ _ _ r=>r) fun g ow ρ n d v H0 H2 fr _ r q=>by
 obtain⟨z,e,q2⟩:=yk fr.twn q;obtain⟨x,rfl,e1⟩:=zf e;cases x<;>simp only[fNeg]at e1<;>cases e1;exact⟨_,y0 (Rep1.d1 r),q2 _ _ (Same.refl _) di⟩
noncomputable def mIf{α:Type}(c:Env'->Mx Bool)(a b:Env'->Mx α):Env'->Mx α:=fun ρ=>c ρ >>= fun t=>if t=true then a ρ else b ρ
theorem zC9{R:RG D V}{σ:St}{H:Hp}{Q:VK}(hR:∀g S H H1 H2 a v n,Kp g.T H H1->Twn g H1 n->R g S H1 H2 a v->R g S H H2 a v)(h:rdG R K Er (mIf mc ma mb) σ H Q):tIf (rdG RT K Er mc) (rdG R K Er ma) (rdG R K Er mb) σ H Q:=
 rd1 h hR fun g ow ρ n d v H0 H2 fr _ r q=>by
  cases r;cases d with
  | true=>exact ite_tt ⟨g,ow,ρ,n,fr,q⟩
  | false=>exact ite_ff ⟨g,ow,ρ,n,fr,q⟩
theorem z9T(hc:DT K Er X c mc)(ha:DW K Er X a ma)(hb:DW K Er X b mb):DW K Er X (.IfExp c a b pos) (mIf mc ma mb):=(z75 hc ha hb).imp fun σ H Q h=>zC9 (fun _ _ _ _ _ _ _ _ _ _ r=>r) h
noncomputable def uC(a b:Env'->Mx D):Env'->Mx D:=fun ρ=>a ρ >>= fun x=>Mx.opt (onB x) >>= fun t=>if t=true then b ρ else pure (.p (.bool false))
theorem w8(ha:DW K Er X a ma)(hb:DE K Er X (.BoolOp .And (b::rest) pos) mb):DE K Er X (.BoolOp .And (a::b::rest) pos) (uC ma mb):=(zBs ha hb).imp fun σ H Q h=>rd1 h (fun _ _ _ _ _ _ _ _ _ _ r=>r) fun g ow ρ n d v H0 H2 fr _ r q=>by
 obtain⟨t,e,q2⟩:=yn q;have e1:=z3Q e;subst e1;cases t with
 | true=>exact⟨true,z7d (Rep1.d1 r),ite_tt ⟨g,ow,ρ,n,fr,q2⟩⟩
 | false=>exact⟨false,z7d (Rep1.d1 r),ite_ff (q2 _ _ (Kp.refl _ _) fr.twn rb)⟩
theorem wb{op}(h:DE K Er X a m):DE K Er X (.BoolOp op [a] pos) m:=zBp h
noncomputable def truD:PyData->Option Bool
 | .none=>some false
 | .bool b=>some b
 | .int i=>some (i != 0)
 | .str y=>if y.length<=lim then some ((y.length:Int) != 0)else none
 | .list ds=>some (!ds.isEmpty)
 | .tuple ds=>some (!ds.isEmpty)
 | .dict _=>none
noncomputable def mTru(m:Env'->Mx D):Env'->Mx Bool:=fun ρ=>m ρ >>= fun x=>Mx.opt (onP truD x)
theorem DatsS.emp{S:Addr->Prop}{H:Hp}{ds:List PyData}{xs:List V}(h:DatsS S H ds xs):ds.isEmpty=xs.isEmpty:=by
 have:=h.length;cases ds<;>cases xs<;>simp_all
theorem zt(ha:DW K Er X a ma)(he:∀whole,isTrue a X.env whole=(do let v<-whole;standAt a.pos;holding [v] (truthy v))):DT K Er X a (mTru ma):=(z7F ha he).imp fun σ H Q h=>rd1 h (fun _ _ _ _ _ _ _ _ _ _ r=>r) fun g ow ρ n d v H0 H2 fr _ r q=>by
 obtain⟨k,e,q2⟩:=z0A q;obtain⟨x,rfl,e1⟩:=zf e;have q3:=q2 _ _ (Kp.refl _ _) fr.twn rfl;cases x with
 | none=>cases e1;cases z6M (Rep1.d1 r);exact⟨false,rfl,q3⟩
 | bool b=>cases e1;cases z7d (Rep1.d1 r);exact⟨_,rfl,q3⟩
 | int i=>cases e1;cases y0 (Rep1.d1 r);exact⟨_,rfl,q3⟩
 | str y=>
  cases z1f (Rep1.d1 r);simp only[truD]at e1;split at e1
  next hl=>cases e1;exact⟨_,⟨yt hl,rfl⟩,q3⟩
  next=>cases e1
 | list ds=>
  cases e1;obtain⟨a,xs,rfl,g1,k1⟩:=ym (Rep1.d1 r);exact⟨_,.inl ⟨xs,SqL.of g1,by rw[k1.emp]⟩,q3⟩
 | tuple ds=>
  cases e1;obtain⟨a,xs,rfl,g1,k1⟩:=yj (Rep1.d1 r);exact⟨_,.inr (.inl ⟨xs,SqT.of g1,by rw[k1.emp]⟩),q3⟩
 | dict _=>cases e1
noncomputable def zq(m:Env'->Mx D):Env'->Mx Bool:=fun ρ=>m ρ >>= fun x=>Mx.opt (onB x)
theorem yV{α β γ:Type}(m:Mx α)(f:α->Mx β)(k:β->Mx γ):((m >>= f) >>= k)=m >>= fun x=>f x >>= k:=by
 funext n;rw[Mx.bind_def,Mx.bind_def,Mx.bind_def];cases m n<;>rfl
theorem zj{op:CmpOp}{f:PyData->PyData->Option PyData}(ho:OpR X (compareOp op) (rD2 f))(ha:DW K Er X a ma)(hb:DW K Er X b mb)(hm:behindInMarks op b=false):DT K Er X (.Compare a [op] [b] pos) (zq (mBin f ma mb)):=
 (z2d ho ha hb hm).imp fun σ H Q h=>by
  have e:zq (mBin f ma mb)=fun ρ=>ma ρ >>= fun x=>mb ρ >>= fun y=>(Mx.opt ((onP2 f x y).map D.p) >>= fun z=>Mx.opt (onB z)):=by
   funext ρ;unfold zq mBin;rw[yV];congr 1;funext x;rw[yV]
  rw[e]at h;refine rd2 (Z:=fun v u H2=>rD2 f v u H2 fun x H'=>∃k,x=.bl k/\Q k H') h (fun _ _ _ _ _ _ _ _ _ _ r=>r) fun g ow ρ n x y v u H2 fr r1 r2 q=>?_;obtain⟨z,e,q1⟩:=yn q;obtain⟨k,e2,q2⟩:=z0A q1;obtain⟨r,e3,e4⟩:=Option.map_eq_some_iff.mp e;obtain⟨x,y,rfl,rfl,e5⟩:=yX e3;have e6:=z3Q e2;rw[<-e4]at e6;cases e6;exact⟨g.S ow,x,y,_,fr.dom,Dat1.weak r1,Dat1.weak r2,e5,fun v H' s d=>⟨k,by simpa only[DatS]using d,q2 _ _ s.kp (s.twn fr.twn) rfl⟩⟩
noncomputable def xm(m:Env'->Mx Bool):Env'->Mx Bool:=fun ρ=>m ρ >>= fun b=>pure (!b)
noncomputable def wv(a b:Env'->Mx Bool):Env'->Mx Bool:=fun ρ=>a ρ >>= fun t=>if t=true then b ρ else pure false
noncomputable def mOrT(a b:Env'->Mx Bool):Env'->Mx Bool:=fun ρ=>a ρ >>= fun t=>if t=true then pure true else b ρ
theorem xS(h:DT K Er X a mc):DT K Er X (.UnaryOp .Not a pos) (xm mc):=(zBH h).imp fun σ H Q h=>rd1 h (fun _ _ _ _ _ _ _ _ _ _ r=>r) fun g ow ρ n d v H0 H2 fr _ r q=>by
 cases r;exact q _ _ (Kp.refl _ _) fr.twn rfl
noncomputable abbrev DPW(K:W.Frag)(Er:Str->Hp->Prop)(X:Cx)(e:Expr)(m:Env'->Mx Bool):Prop:=PW X e (rdG RT K Er m)
theorem PW.imp{t t':TT}(h:PW X e t)(k:∀σ H Q,t' σ H Q->t σ H Q):PW X e t':=fun wh pins s σ H Q I q=>h wh pins s σ H Q I (k σ H Q q)
theorem xu(h:DT K Er X a mc):DPW K Er X (.BoolOp .And [a] pos) mc:=z9j h
theorem wF(h:DT K Er X a mc):DPW K Er X (.BoolOp .Or [a] pos) mc:=zAS h
theorem wj(h:DT K Er X a mc)(h2:DPW K Er X (.BoolOp .And (b::rest) pos) mt):DPW K Er X (.BoolOp .And (a::b::rest) pos) (wv mc mt):=PW.imp (zAy h h2) fun σ H Q h=>rd1 h (fun _ _ _ _ _ _ _ _ _ _ r=>r) fun g ow ρ n d v H0 H2 fr _ r q=>by
 cases r;cases d with
 | true=>exact ite_tt ⟨g,ow,ρ,n,fr,q⟩
 | false=>exact ite_ff (q _ _ (Kp.refl _ _) fr.twn rfl)
theorem w4(h:DT K Er X a mc)(h2:DPW K Er X (.BoolOp .Or (b::rest) pos) mt):DPW K Er X (.BoolOp .Or (a::b::rest) pos) (mOrT mc mt):=PW.imp (zD6 h h2) fun σ H Q h=>rd1 h (fun _ _ _ _ _ _ _ _ _ _ r=>r) fun g ow ρ n d v H0 H2 fr _ r q=>by
 cases r;cases d with
 | true=>exact ite_tt (q _ _ (Kp.refl _ _) fr.twn rfl)
 | false=>exact ite_ff ⟨g,ow,ρ,n,fr,q⟩
theorem DPW.dt(h:DPW K Er X a mc):DT K Er X a mc:=h.pt
noncomputable def mNil:Env'->Mx (List D):=fun _=>pure []
noncomputable def zB(m:Env'->Mx D)(ms:Env'->Mx (List D)):Env'->Mx (List D):=fun ρ=>m ρ >>= fun x=>ms ρ >>= fun xs=>pure (x::xs)
theorem zD:DA K Er X [] mNil:=pa_nil.imp fun σ H Q ⟨g,ow,ρ,n,f,q⟩=>q [] H (Kp.refl _ _) f.twn .nil
theorem zO:DAW K Er X [] mNil:=pa_nil.imp fun σ H Q ⟨g,ow,ρ,n,f,q⟩=>q [] H (Kp.refl _ _) f.twn .nil
theorem zA(ha:DE K Er X e m)(hr:DA K Er X es ms)(hs:starEach (e::es) X.env=(false,eval e X.env)::starEach es X.env:=by rfl):DA K Er X (e::es) (zB m ms):=(zW ha hr hs).imp fun σ H Q h=>
 rd1 h (fun _ _ _ _ _ _ _ _ _ _ r=>r) fun g ow ρ n d v H0 H1 fr _ r q=>by
  refine⟨g,ow,ρ,n,fr,?_⟩;refine AftG.bind q fun xs n2 vs H2 k2 t2 r2 c2=>?_;exact c2 (R3:=RA g (g.S ow)) (fun _ _ _ z=>z) (v::vs) H2 (Kp.refl _ _) t2 (.cons (r.kp (k2.mono Gh.ts) fun a z=>.inl z) r2)
theorem zL(ha:DW K Er X e m)(hr:DAW K Er X es ms)(hs:starEach (e::es) X.env=(false,eval e X.env)::starEach es X.env:=by rfl):DAW K Er X (e::es) (zB m ms):=(zW ha hr hs).imp fun σ H Q h=>
 rd1 h (fun _ _ _ _ _ _ _ _ _ _ r=>r) fun g ow ρ n d v H0 H1 fr _ r q=>by
  refine⟨g,ow,ρ,n,fr,?_⟩;refine AftG.bind q fun xs n2 vs H2 k2 t2 r2 c2=>?_;exact c2 (R3:=RAW g (g.S ow)) (fun _ _ _ z=>z) (v::vs) H2 (Kp.refl _ _) t2 (.cons (Rep1.kp k2 Gh.us r) r2)
noncomputable def toP:List D->Option (List PyData)
 | []=>some []
 | .p x::r=>(toP r).map (x::·)
 | _=>none
theorem z8X{g:Gh}{S:Addr->Prop}{H:Hp}:∀{ds:List D} {xs:List PyData} {vs:List V},toP ds=some xs->All2 (Rep g S H) ds vs->DatsS S H xs vs
 | [],xs,_,h,r=>by simp only[toP]at h;cases h;cases r;exact .nil
 | .p x::ds,xs,_,h,r=>by
  simp only[toP]at h;cases e:toP ds with
  | none=>rw[e]at h;cases h
  | some ys=>
   rw[e]at h;cases h;cases r with
   | cons r1 r2=>exact .cons r1 (z8X e r2)
 | .scr _::_,_,_,h,_=>by simp only[toP]at h;cases h
 | .town::_,_,_,h,_=>by simp only[toP]at h;cases h
 | .fn _::_,_,_,h,_=>by simp only[toP]at h;cases h
 | .exc _ _::_,_,_,h,_=>by simp only[toP]at h;cases h
noncomputable def mSeq(j:List PyData->PyData)(ms:Env'->Mx (List D)):Env'->Mx PyData:=fun ρ=>ms ρ >>= fun ds=>Mx.opt ((toP ds).bind fun xs=>if xs.length<=lim then some (j xs)else none)
theorem z60{α:Type}{j:List PyData->PyData}{g:Gh}{S:Addr->Prop}{R:Hp->Hp->PyData->α->Prop}{H:Hp}{ds:List D}{vs:List V}{n:Wd}{Q:α->Hp->Prop}(t:Twn g H n)(r:All2 (Rep g S H) ds vs)(h:AftG R g Er H (Mx.opt ((toP ds).bind fun xs=>if xs.length<=lim then some (j xs)else none) n) Q):
  ∃xs,DatsS S H xs vs/\vs.length<=sizeLine/\∀v H',Same H H'->R H H' (j xs) v->Q v H':=by
 cases e:toP ds with
 | none=>rw[e]at h;exact h.elim
 | some xs=>
  rw[e]at h;have h:AftG R g Er H (Mx.opt (if xs.length<=lim then some (j xs)else none) n) Q:=h;have k:=z8X e r;split at h
  next hl=>exact⟨xs,k,yt (by rw[<-k.length];exact hl),fun v H' s r=>h v H' s.kp (s.twn t) r⟩
  next=>exact h.elim
theorem yY{x1}(h:DA K Er X es ms):DE K Er X (.Tuple es x1 pos) (mP (mSeq PyData.tuple ms)):=(zAQ h).imp fun σ H Q h=>by
 have e:mP (mSeq PyData.tuple ms)=fun ρ=>ms ρ >>= fun ds=>(Mx.opt ((toP ds).bind fun xs=>if xs.length<=lim then some (PyData.tuple xs)else none) >>= fun x=>pure (D.p x)):=by
  funext ρ;unfold mP mSeq;rw[yV]
 rw[e]at h;refine rd1 h (fun _ _ _ _ _ _ _ _ _ _ r=>r) fun g ow ρ n ds vs H0 H2 fr _ r q=>?_;have q':AftG (fun H H' (x:PyData) v=>RE g (g.S ow) H H' (.p x) v) g Er H2 (Mx.opt ((toP ds).bind fun xs=>if xs.length<=lim then some (PyData.tuple xs)else none) n) Q:=by
  rw[Mx.bind_def]at q;cases z:Mx.opt ((toP ds).bind fun xs=>if xs.length<=lim then some (PyData.tuple xs)else none) n with
  | ok x k=>rw[z]at q;exact q
  | err c k=>rw[z]at q;exact q
  | bad=>rw[z]at q;exact q
 obtain⟨xs,k,hl,q⟩:=z60 fr.twn r q';exact⟨hl,fun p hp=>q _ _ (Same.new hp) (z3J hp k)⟩
theorem yA(h:DA K Er X es ms):DF K Er X (.List es pos) (mSeq PyData.list ms):=(z6j h).imp fun σ H Q h=>rd1 h ww fun g ow ρ n ds vs H0 H2 fr _ r q=>by
 obtain⟨xs,k,hl,q⟩:=z60 fr.twn r q;refine⟨hl,fun p hp=>q _ _ (Same.new hp) ⟨p,rfl,hp,Pl.upd,?_⟩⟩;simp only[Dat1];exact⟨p,vs,rfl,id,zG,DatsS.kp (Kp.of (Same.new hp)) (fun b z=>z.elim .inl fun e=>.inr (e▸hp)) k⟩
end
section
variable{K:W.Frag}{Er:Str->Hp->Prop}{X:Cx}{e a b c:Expr}{es rest:List Expr}{m ma mb:Env'->Mx D}{mc mt:Env'->Mx Bool}{ms:Env'->Mx (List D)}{pos p2:Pos}
theorem yI(hu:X.A.units+1<cLine)(ha:DW K Er X a ma)(hb:DW K Er X b mb)(hs:z4r b):DE K Er X (.Subscript a b pos) (mBin fIx ma mb):=
 (zAH (ix_D hu) ha hb hs).imp fun σ H Q h=>rd2 (Z:=fun v u H2=>rD2 fIx v u H2 Q) h (fun _ _ _ _ _ _ _ _ _ _ r=>r) fun g ow ρ n x y v u H2 fr r1 r2 q=>by
  obtain⟨r,e,q2⟩:=yk fr.twn q;obtain⟨x,y,rfl,rfl,e⟩:=yX e;exact⟨g.S ow,x,y,r,fr.dom,Dat1.weak r1,Dat1.weak r2,e,q2⟩
noncomputable def onPs{α:Type}(f:List PyData->Option α)(ds:List D):Option α:=(toP ds).bind f
noncomputable def rDn(f:List PyData->Option PyData):List V->Hp->VK->Prop:=fun vs H Q=>∃S ds r,(∀a,S a->H a≠none)/\All2 (Dat1 N0 S H) ds vs/\f ds=some r/\∀v H',Same H H'->DatS S H' r v->Q v H'
noncomputable def zV(f:List PyData->Option PyData)(ms:Env'->Mx (List D)):Env'->Mx D:=fun ρ=>ms ρ >>= fun ds=>Mx.opt ((onPs f ds).map D.p)
theorem z6I{g:Gh}{S:Addr->Prop}{H:Hp}:∀{ds:List D} {xs:List PyData} {vs:List V},toP ds=some xs->All2 (Rep1 g S H) ds vs->All2 (Dat1 N0 S H) xs vs
 | [],xs,_,h,r=>by simp only[toP]at h;cases h;cases r;exact .nil
 | .p x::ds,xs,_,h,r=>by
  simp only[toP]at h;cases e:toP ds with
  | none=>rw[e]at h;cases h
  | some ys=>
   rw[e]at h;cases h;cases r with
   | cons r1 r2=>exact .cons (Dat1.weak r1) (z6I e r2)
 | .scr _::_,_,_,h,_=>by simp only[toP]at h;cases h
 | .town::_,_,_,h,_=>by simp only[toP]at h;cases h
 | .fn _::_,_,_,h,_=>by simp only[toP]at h;cases h
 | .exc _ _::_,_,_,h,_=>by simp only[toP]at h;cases h
theorem z9a{f:List PyData->Option PyData}{t:TE}(h:∀σ H Q,rdG RAW K Er ms σ H (fun vs H1=>rDn f vs H1 Q)->t σ H Q)(hp:PE X e t):DE K Er X e (zV f ms):=hp.imp fun σ H Q hq=>h σ H Q (rd1 hq (fun _ _ _ _ _ _ _ _ _ _ r=>r) fun g ow ρ n ds vs H0 H2 fr _ r q=>by
 obtain⟨z,e,q2⟩:=yk fr.twn q;obtain⟨xs,e1,e2⟩:=Option.bind_eq_some_iff.mp e;exact⟨g.S ow,xs,z,fr.dom,z6I e1 r,e2,q2⟩)
theorem zU{x:Str}{id:String}{p:Pos}{f:List PyData->Option PyData}(hc:CallR X (.builtin id) (rDn f))(hg:Gl X x)(hm:X.mg x=none)(hv:bootBuiltins x=some (.builtin id))(ha:DAW K Er X (e::es) ms)(hn:x≠"__name__":=by decide)(hdb:(x == ("__debug__":Str))=false:=by decide)
  (he:starEach (e::es) X.env=(false,eval e X.env)::starEach es X.env:=by rfl) (hpl:(backTo pos (starEach es X.env)).any (·.1)=false:=by rfl):DE K Er X (.Call (.Name x p) (e::es) [] pos) (zV f ms):=
 z9a (fun σ H Q h=>h) (yB hc hg hm hv ha hn hdb he hpl)
theorem xj{x:Str}{T:String}{p:Pos}{f:List PyData->Option PyData}(hc:CallR X (.type T) (rDn f))(hg:Gl X x)(hm:X.mg x=none)(hv:bootBuiltins x=some (.type T))(ha:DAW K Er X (e::es) ms)(hn:x≠"__name__":=by decide)(hdb:(x == ("__debug__":Str))=false:=by decide)
  (he:starEach (e::es) X.env=(false,eval e X.env)::starEach es X.env:=by rfl) (hpl:(backTo pos (starEach es X.env)).any (·.1)=false:=by rfl):DE K Er X (.Call (.Name x p) (e::es) [] pos) (zV f ms):=
 z9a (fun σ H Q h=>h) (xH hc hg hm hv ha hn hdb he hpl)
theorem all1{α β:Type}{R:α->β->Prop}{d:α}{vs:List β}(h:All2 R [d] vs):∃v,vs=[v]/\R d v:=by
 cases h with
 | cons r t=>cases t;exact⟨_,rfl,r⟩
theorem all2{α β:Type}{R:α->β->Prop}{d e:α}{vs:List β}(h:All2 R [d,e] vs):∃v u,vs=[v,u]/\R d v/\R e u:=by
 cases h with
 | cons r t=>
  obtain⟨u,rfl,r2⟩:=all1 t;exact⟨_,u,rfl,r,r2⟩
noncomputable def fLen:List PyData->Option PyData
 | [.list ds]=>some (.int ds.length)
 | [.tuple ds]=>some (.int ds.length)
 | [.str x]=>if x.length<=lim then some (.int x.length)else none
 | _=>none
theorem yU:CallR X (.builtin "len") (rDn fLen):=(call_len_seq.or z1z).imp fun vs H Q ⟨S,ds,r,hS,h1,hf,q⟩=>by
 match ds,hf,h1 with
 | [.list xs],hf,h1=>
  cases hf;obtain⟨v,rfl,r⟩:=all1 h1;obtain⟨a,ys,rfl,g1,k1⟩:=ym r;exact .inl ⟨a,ys,rfl,.inl (SqL.of g1),by rw[<-k1.length];exact q _ _ (Same.refl _) di⟩
 | [.tuple xs],hf,h1=>
  cases hf;obtain⟨v,rfl,r⟩:=all1 h1;obtain⟨a,ys,rfl,g1,k1⟩:=yj r;exact .inl ⟨a,ys,rfl,.inr (SqT.of g1),by rw[<-k1.length];exact q _ _ (Same.refl _) di⟩
 | [.str x],hf,h1=>
  obtain⟨v,rfl,r⟩:=all1 h1;simp only[fLen]at hf;split at hf
  next hl=>cases hf;exact .inr ⟨x,by rw[z1f r],yt hl,q _ _ (Same.refl _) di⟩
  next=>cases hf
noncomputable def z01:List PyData->Option PyData
 | [.list ds]=>some (.tuple ds)
 | [.tuple ds]=>some (.tuple ds)
 | _=>none
theorem wa:CallR X (.type "tuple") (rDn z01):=call_tuple_of.imp fun vs H Q ⟨S,ds,r,hS,h1,hf,q⟩=>by
 match ds,hf,h1 with
 | [.list xs],hf,h1=>
  cases hf;obtain⟨v,rfl,r⟩:=all1 h1;obtain⟨a,ys,rfl,g1,k1⟩:=ym r;exact⟨a,ys,rfl,.inl ⟨SqL.of g1,fun l hl=>q _ _ (Same.new hl) (z3J hl k1)⟩⟩
 | [.tuple xs],hf,h1=>
  cases hf;obtain⟨v,rfl,r⟩:=all1 h1;obtain⟨a,ys,rfl,g1,k1⟩:=yj r;exact⟨a,ys,rfl,.inr ⟨SqT.of g1,q _ _ (Same.refl _) (wo g1 k1)⟩⟩
noncomputable def xo:List PyData->Option (List Bool)
 | []=>some []
 | .bool i::r=>(xo r).map (i::·)
 | _=>none
theorem z0X:∀{ds:List PyData} {ns:List Bool},xo ds=some ns->ds=ns.map PyData.bool
 | [],ns,h=>by simp only[xo]at h;cases h;rfl
 | d::r,ns,h=>by
  cases d<;>simp only[xo]at h<;>try (cases h;done)
  cases e:xo r with
  | none=>rw[e]at h;cases h
  | some ms=>rw[e]at h;cases h;rw[List.map_cons,z0X e]
theorem DatsS.bools{S:Addr->Prop}{H:Hp}:∀{ns:List Bool} {xs:List V},DatsS S H (ns.map PyData.bool) xs->xs=ns.map V.bl
 | [],xs,h=>by simpa only[List.map_nil,DatsS]using h
 | n::ns,xs,h=>by
  simp only[List.map_cons,DatsS]at h;obtain⟨x,r,rfl,h1,h2⟩:=h;simp only[DatS]at h1;subst h1;rw[List.map_cons,DatsS.bools h2]
noncomputable def yQ(f:List Bool->Bool):List PyData->Option PyData
 | [.list ds]=>(xo ds).map fun bs=>.bool (f bs)
 | _=>none
theorem z3u{f:List Bool->Bool}{vs:List V}{H:Hp}{Q:VK}(h:rDn (yQ f) vs H Q):∃(p:Addr) (bs:List Bool),vs=[.ref p]/\SqL X.K H p (bs.map V.bl)/\Q (.bl (f bs)) H:=by
 obtain⟨S,ds,r,hS,h1,hf,q⟩:=h
 match ds,hf,h1 with
 | [.list xs],hf,h1=>
  simp only[yQ]at hf;obtain⟨bs,e,e2⟩:=Option.map_eq_some_iff.mp hf;subst e2;obtain⟨v,rfl,r⟩:=all1 h1;obtain⟨a,ys,rfl,g1,k1⟩:=ym r;rw[z0X e]at k1;rw[k1.bools]at g1;exact⟨a,bs,rfl,SqL.of g1,q _ _ (Same.refl _) db⟩
theorem z0R(hc:X.calm=true):CallR X (.builtin "all") (rDn (yQ fun bs=>bs.all id)):=(z6R hc).imp fun vs H Q h=>z3u h
theorem zBg(hc:X.calm=true):CallR X (.builtin "any") (rDn (yQ fun bs=>bs.any id)):=(z4v hc).imp fun vs H Q h=>z3u h
noncomputable def wZ(m:Env'->Mx D):Env'->Mx (Option Int):=fun ρ=>m ρ >>= fun x=>Mx.opt (onP (fun x=>match x with | .int i=>some (some i) | _=>none) x)
noncomputable def xL:Env'->Mx (Option Int):=fun _=>pure none
noncomputable abbrev RO:RG (Option Int) (Option Int):=fun _ _ _ _ a b=>a=b
noncomputable abbrev DO(K:W.Frag)(Er:Str->Hp->Prop)(X:Cx)(e:Option Expr)(m:Env'->Mx (Option Int)):Prop:=PO X e (rdG RO K Er m)
theorem PO.imp{e:Option Expr}{t t':TO}(h:PO X e t)(k:∀σ H Q,t' σ H Q->t σ H Q):PO X e t':=fun pins s σ H Q I q=>h pins s σ H Q I (k σ H Q q)
theorem z10:DO K Er X none xL:=po_none.imp fun σ H Q ⟨g,ow,ρ,n,f,q⟩=>q none H (Kp.refl _ _) f.twn rfl
theorem wp(h:DW K Er X e m):DO K Er X (some e) (wZ m):=(zAI h).imp fun σ H Q h=>rd1 h (fun _ _ _ _ _ _ _ _ _ _ r=>r) fun g ow ρ n d v H0 H2 fr _ r q=>by
 obtain⟨o,e,q2⟩:=z0A q;obtain⟨x,rfl,e1⟩:=zf e;cases x<;>simp only at e1<;>cases e1;exact⟨_,y0 (Rep1.d1 r),q2 _ _ (Kp.refl _ _) fr.twn rfl⟩
noncomputable def cutD(xs:List PyData)(lo hi:Option Int):List PyData:=(xs.drop (HT.sIx xs.length 0 lo)).take (HT.sIx xs.length xs.length hi - HT.sIx xs.length 0 lo)
theorem DatsS.cut{S:Addr->Prop}{H:Hp}{ds:List PyData}{xs:List V}(h:DatsS S H ds xs)(lo hi:Option Int):DatsS S H (cutD ds lo hi) (cutV xs lo hi):=by
 unfold cutD cutV;rw[h.length];exact(h.drop _).take _
noncomputable def fSl(x:PyData)(lo hi:Option Int):Option PyData:=match x with
 | .list ds=>some (.list (cutD ds lo hi))
 | .tuple ds=>some (.tuple (cutD ds lo hi))
 | _=>none
noncomputable def mSl(m:Env'->Mx D)(ml mh:Env'->Mx (Option Int)):Env'->Mx D:=fun ρ=>m ρ >>= fun x=>ml ρ >>= fun lo=>mh ρ >>= fun hi=>Mx.opt ((onP (fun y=>fSl y lo hi) x).map D.p)
noncomputable def rSlD:V->Option Int->Option Int->Hp->VK->Prop:=fun x lo hi H Q=>∃S d r,(∀a,S a->H a≠none)/\Dat1 N0 S H d x/\fSl d lo hi=some r/\∀v H',Same H H'->DatS S H' r v->Q v H'
theorem sl_D:SlR X rSlD:=(sl_list.or z6r).imp fun x lo hi H Q ⟨S,d,r,hS,h1,hf,q⟩=>by
 cases d<;>simp only[fSl]at hf<;>try (cases hf;done)
 ·cases hf;obtain⟨a,ys,rfl,g1,k1⟩:=ym h1;exact .inl ⟨a,ys,rfl,SqL.of g1,fun p hp=>q _ _ (Same.new hp) (xt hS hp (k1.cut lo hi))⟩
 ·cases hf;obtain⟨a,ys,rfl,g1,k1⟩:=yj h1;exact .inr ⟨a,ys,rfl,g1,fun p H' s hp=>q _ _ s (wo hp ((k1.cut lo hi).same s))⟩
theorem z5K{lo hi:Option Expr}{ml mh:Env'->Mx (Option Int)}(ha:DW K Er X a ma)(hl:DO K Er X lo ml)(hh:DO K Er X hi mh):DE K Er X (.Subscript a (.Slice lo hi none p2) pos) (mSl ma ml mh):=
 (z7i sl_D ha hl hh).imp fun σ H Q h=>rd1 h (fun _ _ _ _ _ _ _ _ _ _ r=>r) fun g ow ρ n d v H0 H1 fr _ r q=>by
  refine⟨g,ow,ρ,n,fr,AftG.bind q fun l n2 l' H2 k2 t2 r2 c2=>?_⟩;cases r2;have fr2:=fr.kp k2 t2;refine⟨g,ow,ρ,n2,fr2,AftG.bind (c2 (R3:=RE g (g.S ow)) fun _ _ _ z=>z) fun u n3 u' H3 k3 t3 r3 c3=>?_⟩;cases r3;have q3:=c3 (R3:=RE g (g.S ow)) fun _ _ _ z=>z;obtain⟨z,e,q4⟩:=yk t3 q3;obtain⟨x,rfl,e1⟩:=zf e;exact⟨g.S ow,x,z,(fr2.kp k3 t3).dom,Dat1.weak (Rep1.d1 (Rep1.kp k3 Gh.us (Rep1.kp k2 Gh.us r))),e1,q4⟩
end
structure Walks(S:Addr->Prop)(H:Hp)(J:It)(xs:List V):Prop where
 go:∀i H',Kp S H H'->i<xs.length->J.go i H'
 yld:∀i H' x H'',Kp S H H'->J.yld i H' x H''->H''=H'/\(i<xs.length->xs[i]?=some x)
 stop:∀H',Kp S H H'->J.stop xs.length H'
theorem z0I{K:W.Frag}{S:Addr->Prop}{H:Hp}{a:Addr}{xs:List V}(h:H a=some (.lst xs))(hs:¬S a):Walks S H (Itl K a) xs:=
 ⟨fun i H' k hi=>⟨xs,xs[i],SqL.of (k _ _ h (.inl hs)),by simp[hi]⟩,fun i H' x H'' k y=>⟨y.1,fun _=>y.2 xs (SqL.of (k _ _ h (.inl hs)))⟩,fun H' k=>⟨xs,SqL.of (k _ _ h (.inl hs)),Nat.le_refl _⟩⟩
theorem z1n{K:W.Frag}{S:Addr->Prop}{H:Hp}{a:Addr}{xs:List V}(h:H a=some (.tup xs)):Walks S H (Itt K a) xs:=
 ⟨fun i H' k hi=>⟨xs,xs[i],SqT.of (k _ _ h (.inr ⟨_,rfl⟩)),by simp[hi]⟩,fun i H' x H'' k y=>⟨y.1,fun _=>y.2 xs (SqT.of (k _ _ h (.inr ⟨_,rfl⟩)))⟩,fun H' k=>⟨xs,SqT.of (k _ _ h (.inr ⟨_,rfl⟩)),Nat.le_refl _⟩⟩
theorem z2J{S:Addr->Prop}{H:Hp}{lo:Int}{n:Nat}:Walks S H (Itr lo n) ((List.range n).map fun(i:Nat)=>V.int (lo+(i:Int))):=by
 refine⟨fun i H' _ hi=>?_,fun i H' x H'' _ y=>⟨y.1,fun hi=>?_⟩,fun H' _=>?_⟩
 ·show i<n;simpa using hi
 ·obtain⟨_,rfl⟩:=y;have hi:i<n:=by simpa using hi
  simp[hi]
 ·show n<=_;simp
noncomputable def RI(w:Bool):RG (List PyData) It:=fun g S _ H' ds J=>ds.length<=lim/\∃xs,DatsS S H' ds xs/\Walks (if w=true then g.T else S) H' J xs
noncomputable abbrev DI(w:Bool)(K:W.Frag)(Er:Str->Hp->Prop)(X:Cx)(tg it:Expr)(m:Env'->Mx (List PyData)):Prop:=PI X tg it (rdG (RI w) K Er m)
theorem PI.imp{X:Cx}{tg it:Expr}{t t':TI}(h:PI X tg it t)(k:∀σ H Q,t' σ H Q->t σ H Q):PI X tg it t':=fun pins s σ H Q I q=>h pins s σ H Q I (k σ H Q q)
section
variable{K:W.Frag}{Er:Str->Hp->Prop}{X:Cx}{e a b c tg it elt:Expr}{es rest:List Expr}{m ma mb:Env'->Mx D}{mc mt:Env'->Mx Bool}{ms:Env'->Mx (List D)}{mi:Env'->Mx (List PyData)}{pos p2:Pos}
theorem z8K{l:Expr}{tl:TE}(hl:PE X l tl):PI X tg l (fun σ H R=>tl σ H fun x H1=>∃a,x=.ref a/\(((∃xs,SqL X.K H1 a xs)/\R (Itl X.K a) H1)\/((∃xs,SqT X.K H1 a xs)/\R (Itt X.K a) H1))):=by
 intro pins s σ H R I h;refine thn (hl pins s σ H _ I h) fun v s1 ⟨x,H1,I1,r1,q1⟩=>?_;obtain⟨a,e,q1⟩:=q1;subst e;cases r1;have fp:∀b∈[s1.heap.objs.size],FpOk X pins H1 b:=fun b hb=>by
  have e:b=s1.heap.objs.size:=by simpa using hb
  subst e;exact I1.fpOk (Nat.le_refl _) (I1.hok.fresh (Nat.le_refl _))
 rcases q1 with ⟨⟨xs,hq⟩,q⟩ | ⟨⟨xs,hq⟩,q⟩
 ·obtain⟨its,rv,p,hz⟩:=I1.list hq;refine wpAny_pyIter_list p.isList ?_;exact⟨s1.heap.objs.size,[s1.heap.objs.size],_,_,H1,rfl,I1.kept (t':=s1.toks) fun b o e=>Heap.get?_push_of_some _ e,z5I a _,⟨_,Heap.get?_push_size _ rfl,rfl,rfl⟩,fp,q⟩
 ·obtain⟨its,rv,p,hz⟩:=I1.tuple hq;refine wpAny_pyIter_tuple (show s1.heap.IsTuple a its.toArray from p) ?_;exact⟨s1.heap.objs.size,[s1.heap.objs.size],_,_,H1,rfl,I1.kept (t':=s1.toks) fun b o e=>Heap.get?_push_of_some _ e,z4T a _,⟨_,Heap.get?_push_size _ rfl,rfl,rfl⟩,fp,q⟩
noncomputable def itD:PyData->Option (List PyData)
 | .list ds=>if ds.length<=lim then some ds else none
 | .tuple ds=>if ds.length<=lim then some ds else none
 | _=>none
noncomputable def mIt(m:Env'->Mx D):Env'->Mx (List PyData):=fun ρ=>m ρ >>= fun x=>Mx.opt (onP itD x)
theorem z1M{x:PyData}{ds:List PyData}(h:itD x=some ds):ds.length<=lim/\(x=.list ds\/x=.tuple ds):=by
 cases x<;>simp only[itD]at h<;>try (cases h;done)
 all_goals (split at h<;>cases h)
 ·exact⟨by assumption,.inl rfl⟩
 ·exact⟨by assumption,.inr rfl⟩
theorem z6D(h:DE K Er X it m):DI false K Er X tg it (mIt m):=(z8K h).imp fun σ H Q h=>rd1 h (fun _ _ _ _ _ _ _ _ _ _ r=>r) fun g ow ρ n d v H0 H2 fr _ r q=>by
 obtain⟨ds,e,q2⟩:=z0A q;obtain⟨x,rfl,e1⟩:=zf e;obtain⟨hl,rfl | rfl⟩:=z1M e1
 ·obtain⟨a,xs,rfl,hn,h1,h2⟩:=(show ∃a xs,v=.ref a/\¬(g.S ow) a/\H2 a=some (.lst xs)/\DatsS (g.S ow) H2 ds xs by simpa only[Rep,DatS]using r);exact⟨a,rfl,.inl ⟨⟨xs,SqL.of h1⟩,q2 _ _ (Kp.refl _ _) fr.twn ⟨hl,xs,h2,z0I h1 (by rw[if_neg Bool.false_ne_true];exact hn)⟩⟩⟩
 ·obtain⟨a,xs,rfl,h1,h2⟩:=yj (T:=N0) (DatS.one (fun _ z=>z.elim) (show DatS (g.S ow) H2 (.tuple ds) v from r));exact⟨a,rfl,.inr ⟨⟨xs,SqT.of h1⟩,q2 _ _ (Kp.refl _ _) fr.twn ⟨hl,xs,h2,z1n h1⟩⟩⟩
theorem xT(h:DW K Er X it m):DI true K Er X tg it (mIt m):=(z8K h).imp fun σ H Q h=>rd1 h (fun _ _ _ _ _ _ _ _ _ _ r=>r) fun g ow ρ n d v H0 H2 fr _ r q=>by
 obtain⟨ds,e,q2⟩:=z0A q;obtain⟨x,rfl,e1⟩:=zf e;obtain⟨hl,rfl | rfl⟩:=z1M e1
 ·obtain⟨a,xs,rfl,hn,h1,h2⟩:=(show ∃a xs,v=.ref a/\¬g.U a/\H2 a=some (.lst xs)/\DatsS (g.S ow) H2 ds xs by simpa only[Rep1,Dat1]using r);exact⟨a,rfl,.inl ⟨⟨xs,SqL.of h1⟩,q2 _ _ (Kp.refl _ _) fr.twn ⟨hl,xs,h2,z0I h1 (by intro z;rw[if_pos rfl]at z;exact hn (.inr z))⟩⟩⟩
 ·obtain⟨a,xs,rfl,h1,h2⟩:=yj (Rep1.d1 r);exact⟨a,rfl,.inr ⟨⟨xs,SqT.of h1⟩,q2 _ _ (Kp.refl _ _) fr.twn ⟨hl,xs,h2,z1n h1⟩⟩⟩
noncomputable def rngD(lo hi:Int):List PyData:=(List.range (hi - lo).toNat).map fun(i:Nat)=>.int (lo+(i:Int))
noncomputable def yl:List PyData->Option (List PyData)
 | [.int j]=>if -1000000<=j/\j<=1000000 then some (rngD 0 j)else none
 | _=>none
noncomputable def z45:List PyData->Option (List PyData)
 | [.int i,.int j]=>if (-1000000<=i/\i<=1000000)/\(-1000000<=j/\j<=1000000)/\(j - i).toNat<=lim then some (rngD i j)else none
 | _=>none
noncomputable def mRng(f:List PyData->Option (List PyData))(ms:Env'->Mx (List D)):Env'->Mx (List PyData):=fun ρ=>ms ρ >>= fun ds=>Mx.opt (onPs f ds)
theorem uQ{S:Addr->Prop}{H:Hp}(f:Nat->Int):∀l:List Nat,DatsS S H (l.map fun i=>PyData.int (f i)) (l.map fun i=>V.int (f i))
 | []=>.nil
 | _::l=>.cons di (uQ f l)
theorem yp{w:Bool}{p pos:Pos}(hg:Gl X "range")(hm:X.mg "range"=none)(ha:DAW K Er X [a] ms)(hs:starEach [a] X.env=[(false,eval a X.env)]:=by rfl):DI w K Er X tg (.Call (.Name "range" p) [a] [] pos) (mRng yl ms):=
 (z61 hg hm ha hs).imp fun σ H Q h=>rd1 h (fun _ _ _ _ _ _ _ _ _ _ r=>r) fun g ow ρ n d v H0 H2 fr _ r q=>by
  obtain⟨ds,e,q2⟩:=z0A q;obtain⟨xs,e1,e2⟩:=Option.bind_eq_some_iff.mp e;have r2:=z6I e1 r
  match xs,e2,r2 with
  | [.int j],e2,r2=>
   simp only[yl]at e2;split at e2
   next hl=>
    cases e2;obtain⟨u,rfl,r3⟩:=all1 r2;refine⟨j,by rw[y0 r3],by omega,by omega,q2 _ _ (Kp.refl _ _) fr.twn ⟨?_,_,?_,z2J⟩⟩
    ·unfold rngD lim;simp;omega
    ·rw[show j.toNat=(j - 0).toNat by omega];exact uQ (fun i=>0+(i:Int)) _
   next=>cases e2
theorem zAB{w:Bool}{p pos:Pos}(hg:Gl X "range")(hm:X.mg "range"=none)(ha:DAW K Er X [a,b] ms)(hs:starEach [a,b] X.env=[(false,eval a X.env),(false,eval b X.env)]:=by rfl)(hs2:starEach [b] X.env=[(false,eval b X.env)]:=by rfl):DI w K Er X tg (.Call (.Name "range" p) [a,b] [] pos) (mRng z45 ms):=
 (z6F hg hm ha hs hs2).imp fun σ H Q h=>rd1 h (fun _ _ _ _ _ _ _ _ _ _ r=>r) fun g ow ρ n d v H0 H2 fr _ r q=>by
  obtain⟨ds,e,q2⟩:=z0A q;obtain⟨xs,e1,e2⟩:=Option.bind_eq_some_iff.mp e;have r2:=z6I e1 r
  match xs,e2,r2 with
  | [.int i,.int j],e2,r2=>
   simp only[z45]at e2;split at e2
   next hl=>
    cases e2;obtain⟨u,u2,rfl,r3,r4⟩:=all2 r2;refine⟨i,j,by rw[y0 r3,y0 r4],⟨by omega,by omega,by omega,by omega⟩,q2 _ _ (Kp.refl _ _) fr.twn ⟨?_,_,?_,z2J⟩⟩
    ·unfold rngD;rw[List.length_map,List.length_range];exact hl.2.2
    ·exact uQ (fun k=>i+(k:Int)) _
   next=>cases e2
noncomputable def zc(c:Env'->Mx Bool)(e:Env'->Mx D)(ρ:Env'):List PyData->List PyData->Mx (List PyData)
 | [],acc=>pure acc
 | d::r,acc=>c (ρ++[some (Sl.val (.p d))]) >>= fun t=>if t=true then(e (ρ++[some (Sl.val (.p d))]) >>= fun y=>Mx.opt (onP some y) >>= fun z=>zc c e ρ r (acc++[z]))else zc c e ρ r acc
noncomputable def yS(mi:Env'->Mx (List PyData))(mc:Env'->Mx Bool)(me:Env'->Mx D):Env'->Mx PyData:=fun ρ=>mi ρ >>= fun ds=>zc mc me ρ ds [] >>= fun l=>pure (.list l)
noncomputable def mYes:Env'->Mx Bool:=fun _=>pure true
theorem Frm.ext1{g:Gh}{ow:Ix->Option Addr}{ρ:Env'}{n:Wd}{σ:St}{H:Hp}{d:D}{v:V}(f:Frm K g ow ρ n σ H)(r:Rep g (g.S ow) H d v):Frm K g ow (ρ++[some (Sl.val d)]) n (σ++[some v]) H:=by
 have hl:=f.len;refine⟨f.scr,f.twn,f.sub,f.ext,fun i d' e=>?_,fun i x e=>?_,fun i kl e=>?_,fun i a e=>?_,f.inj,by simp[hl]⟩
 ·by_cases hi:i<ρ.length
  ·rw[List.getElem?_append_left hi]at e;obtain⟨v',e1,r1⟩:=f.val i d' e;exact⟨v',by rw[List.getElem?_append_left (by omega)];exact e1,r1⟩
  ·have hi':i=ρ.length:=by
    have:=(List.getElem?_eq_some_iff.mp e).1;simp at this;omega
   subst hi';rw[List.getElem?_append_right (Nat.le_refl _),Nat.sub_self]at e;cases e;exact⟨v,by rw[hl,List.getElem?_append_right (Nat.le_refl _),Nat.sub_self];rfl,r⟩
 ·by_cases hi:i<ρ.length
  ·rw[List.getElem?_append_left hi]at e;obtain⟨a,e0,e1,r1⟩:=f.own i x e;exact⟨a,e0,by rw[List.getElem?_append_left (by omega)];exact e1,r1⟩
  ·have hi':i=ρ.length:=by
    have:=(List.getElem?_eq_some_iff.mp e).1;simp at this;omega
   subst hi';rw[List.getElem?_append_right (Nat.le_refl _),Nat.sub_self]at e;cases e
 ·by_cases hi:i<ρ.length
  ·rw[List.getElem?_append_left hi]at e;obtain⟨v',e1,r1⟩:=f.dp i kl e;exact⟨v',by rw[List.getElem?_append_left (by omega)];exact e1,r1⟩
  ·have hi':i=ρ.length:=by
    have:=(List.getElem?_eq_some_iff.mp e).1;simp at this;omega
   subst hi';rw[List.getElem?_append_right (Nat.le_refl _),Nat.sub_self]at e;cases e
 ·obtain⟨h1,h2,h3,h4⟩:=f.owi i a e;exact⟨h1,h2,h3,by simp;omega⟩
theorem z0m{w:Bool}{tc:TT}{σ:St}{H:Hp}{Q:VK}(hw:w=true)(htc:∀σ H Q,rdG RT K Er mc σ H Q->tc σ H Q)(h:rdG RF K Er (yS mi mc m) σ H Q):z51 (rdG (RI w) K Er mi) tc (rdG RE K Er m) σ H Q:=by
 subst hw;refine rd1 h ww fun g ow ρ n ds J H0 H1 fr k01 ⟨hl,xs,hd,wk⟩ q=>?_;have hlen:=hd.length;simp only[if_true]at wk;refine⟨xs.length,fun i ys H'=>∃acc n',Kp g.T H1 H'/\Twn g H' n'/\DatsS (g.S ow) H' acc ys/\AftG (fun _ H2 x v=>RF g (g.S ow) H1 H2 x v) g Er H' ((zc mc m ρ (ds.drop i) acc >>= fun l=>pure (PyData.list l)) n') Q,
  ⟨[],n,Kp.refl _ _,fr.twn,.nil,by rw[List.drop_zero];exact q.imp (fun _ _ _ z=>z) fun _ _ z=>z⟩,⟨yt (by rw[<-hlen];exact hl),fun ys H' ⟨_,_,k,_⟩=>wk.stop H' k,fun i ys H' hi ⟨_,_,k,_⟩=>wk.go i H' k hi,fun i ys H' v H'' hi ⟨acc,n',k,t,dd,q⟩ y=>?_⟩,fun ys H' ⟨acc,n',k,t,dd,q⟩ D hD=>?_⟩
 ·obtain⟨rfl,hv⟩:=wk.yld i H' v _ k y;have hv:=hv hi;have hid:i<ds.length:=by omega
  obtain⟨v',ev,rv⟩:=hd.get (List.getElem?_eq_getElem hid);rw[hv]at ev;cases ev;have rv':Rep g (g.S ow) H'' (.p ds[i]) v:=DatS.kp (k.mono Gh.ts) (fun _ z=>.inl z) rv;have f1:Frm K g ow (ρ++[some (Sl.val (.p ds[i]))]) n' (σ++[some v]) H'':=(fr.kp k t).ext1 rv';rw[List.drop_eq_getElem_cons hid]at q;simp only[zc,yV]at q;refine htc _ _ _ ⟨g,ow,_,n',f1,AftG.bind q fun tb n2 tb' H3 k3 t3 r3 c3=>?_⟩;cases r3;have q3:=c3 (R3:=fun _ H2 x v=>RF g (g.S ow) H1 H2 x v) fun _ _ _ z=>z;cases tb with
  | false=>
   refine ite_ff ⟨acc,n2,k.trans k3,t3,DatsS.kp (k3.mono Gh.ts) (fun _ z=>.inl z) dd,?_⟩;simpa using q3
  | true=>
   simp only[if_true,yV]at q3;refine ite_tt ⟨g,ow,_,n2,f1.kp k3 t3,AftG.bind q3 fun yv n4 yv' H4 k4 t4 r4 c4=>?_⟩;have q4:=c4 (R3:=fun _ H2 x v=>RF g (g.S ow) H1 H2 x v) fun _ _ _ z=>z;obtain⟨z,ez,q5⟩:=yn q4;obtain⟨z',rfl,ez2⟩:=zf ez;cases ez2;exact⟨acc++[z],n4,(k.trans k3).trans k4,t4,(DatsS.kp ((k3.trans k4).mono Gh.ts) (fun _ z=>.inl z) dd).append (.cons r4 .nil),q5⟩
 ·rw[List.drop_of_length_le (by omega)]at q;have q:AftG (fun _ H2 x v=>RF g (g.S ow) H1 H2 x v) g Er H' (.ok (.list acc) n') Q:=q;refine q (.ref D) _ (Same.new hD).kp ((Same.new hD).twn t) ⟨D,rfl,xZ k t hD,Pl.upd,?_⟩;simp only[Dat1];exact⟨D,ys,rfl,id,zG,DatsS.kp (Kp.of (Same.new hD)) (fun b z=>z.elim .inl fun e=>.inr (e▸hD)) dd⟩
theorem yN:∀(σ:St) (H:Hp) (Q:Bool->Hp->Prop),rdG RT K Er mYes σ H Q->tYes σ H Q:=fun σ H Q ⟨g,ow,ρ,n,f,q⟩=>q true H (Kp.refl _ _) f.twn rfl
theorem ye{N N':List Str}{sc scope:Scope}{x:Str}{ifs:List Expr}{px:Pos}{tc:TT}(hc:X.calm=true)(hN:X.N=N)(hsc:X.env.scope=sc)(h:u9 N sc scope x N'=true)(htc:∀σ H Q,rdG RT K Er mc σ H Q->tc σ H Q)
  (hi:DI true K Er X (.Name x px) it mi) (hf:∀C s H fp,PF (zY X scope N' C s H fp) ifs tc) (he:∀C s H fp,DE K Er (zY X scope N' C s H fp) elt m)
  (hs:∀x,foldedSetIterable it X.env x=pure x:=by intro _;rfl):DF K Er X (.ListComp elt [⟨.Name x px,it,ifs,0⟩] scope pos) (yS mi mc m):=(z9d hc hN hsc h hi hf he hs).imp fun σ H Q h=>z0m rfl htc h
end
noncomputable def spD(K:W.Frag)(EW:Str->XK->Hp->Prop)(F:List D->Mx D):Sp:=fun vs H Q E=>∃g n ds,g.H0=H/\Scp K g H/\Twn g H n/\(∀a,g.S0 a->H a≠none)/\All2 (Rep g g.U H) ds vs/\
 AftG (fun _ H' d v=>Rep g g.U H' d v) g (fun c H'=>EW c E H') H (F ds n) Q
noncomputable abbrev EW0:Str->XK->Hp->Prop:=fun _ _ _=>False
theorem Rep.shift{g g':Gh}{S S':Addr->Prop}{H:Hp}{d:D}{v:V}(h1:g'.aS=g.aS)(h2:g'.aT=g.aT)(hS:∀a,S' a->S a)(h:Rep g S H d v)(h3:g'.ns=g.ns:=by rfl):Rep g' S' H d v:=by
 cases d with
 | p x=>exact DatS.kp (Kp.refl _ _) (fun a z=>.inl (hS a z)) h
 | scr ns=>show ns=g'.ns/\v=.ref g'.aS;rw[h1,h3];exact h
 | town=>show ∃a,g'.aT.t=some a/\v=.ref a;rw[h2];exact h
 | obj k=>show ∃o,g'.aT.ob k=some o/\v=.ref o.a;rw[h2];exact h
 | fn=>exact h
 | exc a C=>exact⟨h.1,fun z=>h.2.1 (hS a z),h.2.2⟩
section
variable{K:W.Frag}{Er:Str->Hp->Prop}{X:Cx}{e a b c tg it elt:Expr}{es rest:List Expr}{m ma mb:Env'->Mx D}{mc mt:Env'->Mx Bool}{ms:Env'->Mx (List D)}{mi:Env'->Mx (List PyData)}{pos p2:Pos}
noncomputable def zQ(F:List D->Mx D)(ms:Env'->Mx (List D)):Env'->Mx D:=fun ρ=>ms ρ >>= F
theorem z1Y{F:List D->Mx D}{EW:Str->XK->Hp->Prop}{E:XK}(hE:∀c H',Er c H'->EW c E H'){σ:St}{H:Hp}{Q:VK}(h:rdG RE K Er (zQ F ms) σ H Q):rdG RA K Er ms σ H fun vs H1=>spD K EW F (vs++[]) H1 Q E:=
 rd1 h (fun _ _ _ _ _ _ _ _ _ _ r=>r) fun g ow ρ n ds vs H0 H1 fr _ r q=>by
  rw[List.append_nil];refine⟨⟨g.aS,g.ns,g.aT,g.S ow,H1⟩,n,ds,rfl,fr.scp,fr.twn,fr.dom,r.imp fun d v z=>z.shift rfl rfl fun a z=>z.elim id fun z=>.inr (.inl z),?_⟩;generalize F ds n=o at q;cases o with
  | ok d n'=>exact fun v H' k t r=>q v H' k t (r.shift rfl rfl fun a z=>.inl z)
  | err c n'=>exact fun H' k t=>hE _ _ (q H' (fr.ext.trans k) t)
  | bad=>exact q
theorem zK{F:List D->Mx D}{EW:Str->XK->Hp->Prop}{E:XK}{CX:CXT}{k:Nat}{f:Addr}{fd:FuncData}{ps:List Str}{x:Str}{p:Pos}(Fn:FnOk X.prog X.w X.K X.mg X.base CX k f fd ps (spD K EW F))(hE:∀c H',Er c H'->EW c E H')(hr:Room k X.A)(hg:Gl X x)(hm:X.mg x=some (.ref f))(hk:W.keepIn X.K (.ref f)=true)(hb:Binds X.K fd ps [])(hx:z0c CX X E)
  (ha:DA K Er X (e::es) ms) (hdb:(x == ("__debug__":Str))=false:=by decide) (he:starEach (e::es) X.env=(false,eval e X.env)::starEach es X.env:=by rfl) (hpl:(backTo pos (starEach es X.env)).any (·.1)=false:=by rfl) :
  DE K Er X (.Call (.Name x p) (e::es) [] pos) (zQ F ms):=(z9t Fn hr hg hm hk hb .nil hx ha hdb he hpl).imp fun σ H Q h=>z1Y hE h
structure Stp(g:Gh)(ow:Ix->Option Addr)(H:Hp)(ow':Ix->Option Addr)(H':Hp):Prop where
 kp:Kp (g.S ow) H H'
 ow:∀i a,ow' i=some a->(∃j,ow j=some a)\/H a=none
theorem Stp.refl{g:Gh}{ow:Ix->Option Addr}{H:Hp}:Stp g ow H ow H:=⟨Kp.refl _ _,fun i a h=>.inl ⟨i,h⟩⟩
theorem Stp.of{g:Gh}{ow:Ix->Option Addr}{H H':Hp}(k:Kp g.T H H'):Stp g ow H ow H':=⟨k.mono fun a z=>.inr (.inl z),fun i a h=>.inl ⟨i,h⟩⟩
theorem Stp.trans{g:Gh}{ow ow1 ow2:Ix->Option Addr}{H H1 H2:Hp}(dom:∀a,g.S ow1 a->H1 a≠none)(a:Stp g ow H ow1 H1)(b:Stp g ow1 H1 ow2 H2):Stp g ow H ow2 H2:=by
 refine⟨fun c o h k=>?_,fun i x h=>?_⟩
 ·rcases k with k | k
  ·refine b.kp c o (a.kp c o h (.inl k)) (.inl fun z=>?_);rcases z with z | z | ⟨j,z⟩
   ·exact k (.inl z)
   ·exact k (.inr (.inl z))
   ·rcases a.ow j c z with ⟨l,q⟩ | q
    ·exact k (.inr (.inr ⟨l,q⟩))
    ·rw[q]at h;cases h
  ·exact b.kp c o (a.kp c o h (.inr k)) (.inr k)
 ·rcases b.ow i x h with ⟨j,q⟩ | q
  ·exact a.ow j x q
  ·cases z:H x with
   | none=>exact .inr rfl
   | some o=>
    by_cases k:g.S ow x
    ·rcases k with k | k | k
     ·exact absurd q (dom x (.inl k))
     ·exact absurd q (dom x (.inr (.inl k)))
     ·exact .inl k
    ·rw[a.kp x o z (.inl k)]at q;cases q
def AftS(K:W.Frag)(g:Gh)(ow:Ix->Option Addr)(H:Hp)(Er:Str->Hp->Prop)(r:Res Out)(E:Ends):Prop:=match r with
 | .ok (.nx ρ') n'=>∀ow' σ' H',Frm K g ow' ρ' n' σ' H'->Stp g ow H ow' H'->E.nx σ' H'
 | .ok (.bk ρ') n'=>∀ow' σ' H',Frm K g ow' ρ' n' σ' H'->Stp g ow H ow' H'->E.bk σ' H'
 | .ok (.ct ρ') n'=>∀ow' σ' H',Frm K g ow' ρ' n' σ' H'->Stp g ow H ow' H'->E.ct σ' H'
 | .ok (.rt d) n'=>∀v H',Kp g.T g.H0 H'->Twn g H' n'->Rep g g.U H' d v->E.rt v H'
 | .err c n'=>∀H',Kp g.T g.H0 H'->Twn g H' n'->Er c H'
 | .bad=>False
theorem AftS.later{K:W.Frag}{g:Gh}{ow ow1:Ix->Option Addr}{H H1:Hp}{Er:Str->Hp->Prop}{r:Res Out}{E:Ends}(h:AftS K g ow H Er r E)(dom:∀a,g.S ow1 a->H1 a≠none)(s:Stp g ow H ow1 H1):AftS K g ow1 H1 Er r E:=by
 cases r with
 | ok o n=>
  cases o with
  | nx ρ=>exact fun ow' σ' H' f z=>h ow' σ' H' f (s.trans dom z)
  | bk ρ=>exact fun ow' σ' H' f z=>h ow' σ' H' f (s.trans dom z)
  | ct ρ=>exact fun ow' σ' H' f z=>h ow' σ' H' f (s.trans dom z)
  | rt d=>exact h
 | err c n=>exact h
 | bad=>exact h
noncomputable def rdS(K:W.Frag)(Er:Str->Hp->Prop)(m:Env'->Mx Out):TS:=fun E σ H=>∃g ow ρ n,Frm K g ow ρ n σ H/\AftS K g ow H Er (m ρ n) E
noncomputable abbrev DS(K:W.Frag)(Er:Str->Hp->Prop)(X:Cx)(s:Stmt)(m:Env'->Mx Out):Prop:=PS X s (rdS K Er m)
noncomputable abbrev DSs(K:W.Frag)(Er:Str->Hp->Prop)(X:Cx)(s:List Stmt)(m:Env'->Mx Out):Prop:=PSs X s (rdS K Er m)
theorem rs1{γ δ:Type}{R:RG γ δ}{m:Env'->Mx γ}{f:Env'->γ->Mx Out}{σ:St}{H:Hp}{E:Ends}{Z:δ->Hp->Prop}(h:rdS K Er (fun ρ=>m ρ >>= f ρ) E σ H)
  (k:∀g ow ρ n n1 x v H1,Frm K g ow ρ n σ H->Kp g.T H H1->Frm K g ow ρ n1 σ H1->R g (g.S ow) H H1 x v->AftS K g ow H1 Er (f ρ x n1) E->Z v H1):rdG R K Er m σ H Z:=by
 obtain⟨g,ow,ρ,n,fr,q⟩:=h;refine⟨g,ow,ρ,n,fr,?_⟩;dsimp only at q;rw[Mx.bind_def]at q;cases o:m ρ n with
 | ok x n1=>rw[o]at q;exact fun v H1 k1 t1 r1=>k g ow ρ n n1 x v H1 fr k1 (fr.kp k1 t1) r1 (AftS.later q (fr.kp k1 t1).dom (Stp.of k1))
 | err c n1=>rw[o]at q;exact q
 | bad=>rw[o]at q;exact q
theorem rs0{γ δ:Type}{R:RG γ δ}{m:Env'->Mx γ}{f:Env'->γ->Mx Out}{σ:St}{H:Hp}{E:Ends}{Z:δ->Hp->Prop}(h:rdS K Er (fun ρ=>m ρ >>= f ρ) E σ H)
  (k:∀g ow ρ n n1 x v H1,Frm K g ow ρ n σ H->Kp g.T H H1->Frm K g ow ρ n1 σ H1->R g (g.S ow) H H1 x v->AftS K g ow H Er (f ρ x n1) E->Z v H1):rdG R K Er m σ H Z:=by
 obtain⟨g,ow,ρ,n,fr,q⟩:=h;refine⟨g,ow,ρ,n,fr,?_⟩;dsimp only at q;rw[Mx.bind_def]at q;cases o:m ρ n with
 | ok x n1=>rw[o]at q;exact fun v H1 k1 t1 r1=>k g ow ρ n n1 x v H1 fr k1 (fr.kp k1 t1) r1 q
 | err c n1=>rw[o]at q;exact q
 | bad=>rw[o]at q;exact q
noncomputable def sNil:Env'->Mx Out:=fun ρ=>pure (.nx ρ)
noncomputable def sSeq(a b:Env'->Mx Out):Env'->Mx Out:=fun ρ=>a ρ >>= fun o=>match o with
 | .nx ρ'=>b ρ'
 | o=>pure o
variable{st:Stmt}{sts tts:List Stmt}{sa sb:Env'->Mx Out}
theorem yK:DSs K Er X [] sNil:=pss_nil.imp fun σ H E ⟨g,ow,ρ,n,f,q⟩=>q ow σ H f Stp.refl
theorem z7G{E:Ends}{σ:St}{H:Hp}(h:rdS K Er (sSeq sa sb) E σ H):tSeq (rdS K Er sa) (rdS K Er sb) E σ H:=by
 obtain⟨g,ow,ρ,n,f,q⟩:=h;refine⟨g,ow,ρ,n,f,?_⟩;unfold sSeq at q;rw[Mx.bind_def]at q;cases o:sa ρ n with
 | ok x n1=>
  rw[o]at q;cases x with
  | nx ρ'=>exact fun ow' σ' H' f' z=>⟨g,ow',ρ',n1,f',AftS.later q f'.dom z⟩
  | bk ρ'=>exact q
  | ct ρ'=>exact q
  | rt d=>exact q
 | err c n1=>rw[o]at q;exact q
 | bad=>rw[o]at q;exact q
theorem zJ(h1:DS K Er X st sa)(h2:DSs K Er X sts sb):DSs K Er X (st::sts) (sSeq sa sb):=(uJ h1 h2).imp fun σ H E h=>z7G h
theorem zN(h1:DS K Er X st sa):DSs K Er X [st] sa:=z0j h1
noncomputable def sRet(m:Env'->Mx D):Env'->Mx Out:=fun ρ=>m ρ >>= fun d=>pure (.rt d)
theorem Rep1.rep{g:Gh}{ow:Ix->Option Addr}{H:Hp}{d:D}{v:V}(z:Rep1 g (g.S ow) H d v):Rep g g.U H d v:=by
 cases d with
 | p x=>
  show DatS g.U H x v;have z:Dat1 g.U (g.S ow) H x v:=z;have hUS:∀a,g.U a->g.S ow a:=Gh.us;cases x<;>simp only[Dat1]at z
  case list=>obtain⟨a,xs,e,h0,h1,h2⟩:=z;simp only[DatS];exact⟨a,xs,e,h0,h1,DatsS.kp (Kp.refl _ _) (fun a z=>.inl (hUS a z)) h2⟩
  case dict=>obtain⟨a,xs,e,h0,h1,h2⟩:=z;simp only[DatS];exact⟨a,xs,e,h0,h1,DctS.kp (Kp.refl _ _) (fun a z=>.inl (hUS a z)) h2⟩
  all_goals exact DatS.kp (Kp.refl _ _) (fun a z=>.inl (hUS a z)) z
 | scr=>exact z
 | town=>exact z
 | obj=>exact z
 | fn=>exact z
 | exc a C=>exact⟨z.1,fun y=>z.2.1 (Gh.us a y),z.2.2⟩
theorem za(h:DW K Er X e m):DS K Er X (.Return (some e) pos) (sRet m):=(z3C h).imp fun σ H E h=>rs1 h fun g ow ρ n n1 x v H1 f k f1 r q=>q v H1 f1.ext f1.twn (Rep1.rep r)
noncomputable def sIf(c:Env'->Mx Bool)(a b:Env'->Mx Out):Env'->Mx Out:=fun ρ=>c ρ >>= fun t=>if t=true then a ρ else b ρ
theorem xE(hc:DT K Er X c mc)(ha:DSs K Er X sts sa)(hb:DSs K Er X tts sb):DS K Er X (.If c sts tts pos) (sIf mc sa sb):=(z9b hc ha hb).imp fun σ H E h=>rs1 h fun g ow ρ n n1 x v H1 f k f1 r q=>by
 cases r;cases x with
 | true=>exact ite_tt ⟨g,ow,ρ,n1,f1,q⟩
 | false=>exact ite_ff ⟨g,ow,ρ,n1,f1,q⟩
noncomputable def z27(m:Env'->Mx D):Env'->Mx Out:=fun ρ=>m ρ >>= fun _=>pure (.nx ρ)
theorem wl(h:DE K Er X e m)(hs:swapsWith e none pos.line X.env=pure false:=by rfl):DS K Er X (.Expr e pos) (z27 m):=(z13 h hs).imp fun σ H E h=>rs1 h fun g ow ρ n n1 x v H1 f k f1 r q=>q ow σ H1 f1 Stp.refl
noncomputable def z6P:Env'->Mx Out:=fun _=>Mx.bad
theorem z3K:DS K Er X st z6P:=ps_never.imp fun σ H E ⟨g,ow,ρ,n,f,q⟩=>q
noncomputable def putO(ow:Ix->Option Addr)(i:Nat)(o:Option Addr):Ix->Option Addr:=fun j=>if j.1=i then(if j.2=0 then o else none)else ow j
theorem wm{ow:Ix->Option Addr}{i:Nat}{o:Option Addr}{j:Ix}(h:j.1≠i):putO ow i o j=ow j:=if_neg h
theorem z5b{ow:Ix->Option Addr}{i:Nat}{o:Option Addr}:putO ow i o (i,0)=o:=by unfold putO;rw[if_pos rfl,if_pos rfl]
theorem yC{ow:Ix->Option Addr}{i:Nat}{j:Ix}{a:Addr}(h:putO ow i none j=some a):j.1≠i/\ow j=some a:=by
 unfold putO at h;split at h
 ·split at h<;>cases h
 next c=>exact⟨c,h⟩
theorem yu{ow:Ix->Option Addr}{i:Nat}{p:Addr}{j:Ix}{a:Addr}(h:putO ow i (some p) j=some a):(j=(i,0)/\a=p)\/(j.1≠i/\ow j=some a):=by
 unfold putO at h;split at h
 next c=>
  split at h
  next c2=>cases h;exact .inl ⟨Prod.ext c c2,rfl⟩
  next=>cases h
 next c=>exact .inr ⟨c,h⟩
theorem zh{α:Type}{l:List α}{i j:Nat}{x:α}:(l.set i x)[j]?=if j=i/\i<l.length then some x else l[j]?:=by
 rw[List.getElem?_set];by_cases h:i=j
 ·subst h;by_cases hi:i<l.length
  ·simp[hi]
  ·simp[hi]
 ·rw[if_neg h,if_neg (fun z=>h z.1.symm)]
theorem Frm.setVal{g:Gh}{ow:Ix->Option Addr}{ρ:Env'}{n:Wd}{σ:St}{H:Hp}{d:D}{v:V}{i:Nat}(f:Frm K g ow ρ n σ H)(r:Rep g (g.S ow) H d v):Frm K g (putO ow i none) (ρ.set i (some (Sl.val d))) n (σ.set i (some v)) H:=by
 have hS:∀a,g.S (putO ow i none) a->g.S ow a:=fun a z=>by
  rcases z with z | z | ⟨j,z⟩
  ·exact .inl z
  ·exact .inr (.inl z)
  ·exact .inr (.inr ⟨j,(yC z).2⟩)
 have mv:∀{d v},Rep g (g.S ow) H d v->Rep g (g.S (putO ow i none)) H d v:=fun z=>z.shift rfl rfl hS;refine⟨f.scr,f.twn,f.sub,f.ext,fun j d' e=>?_,fun j x e=>?_,fun j kl e=>?_,fun j a e=>?_,fun j k a h1 h2=>?_,by simp[f.len]⟩
 ·rw[zh]at e;split at e
  next c=>cases e;exact⟨v,by rw[zh,if_pos ⟨c.1,by rw[<-f.len];exact c.2⟩],mv r⟩
  next c=>
   obtain⟨v',e1,r1⟩:=f.val j d' e;exact⟨v',by rw[zh,if_neg (fun z=>c ⟨z.1,by rw[f.len];exact z.2⟩)];exact e1,mv r1⟩
 ·rw[zh]at e;split at e
  next c=>cases e
  next c=>
   obtain⟨a,e0,e1,r1⟩:=f.own j x e;have hj:j≠i:=fun z=>c ⟨z,by
    have:=(List.getElem?_eq_some_iff.mp e).1;rw[<-z];exact this⟩
   refine⟨a,by rw[wm hj];exact e0,by rw[zh,if_neg (fun z=>hj z.1)];exact e1,?_⟩;exact r1.move (Kp.refl _ _) (fun a z=>.inl (hS a z)) fun b _ _ hb=>⟨fun o z=>z,hb⟩
 ·rw[zh]at e;split at e
  next c=>cases e
  next c=>
   obtain⟨v',e1,r1⟩:=f.dp j kl e;have hj:j≠i:=fun z=>c ⟨z,by
    have:=(List.getElem?_eq_some_iff.mp e).1;rw[<-z];exact this⟩
   exact⟨v',by rw[zh,if_neg (fun z=>hj z.1)];exact e1,r1.move (fun l a z=>by rw[wm hj];exact z) (fun _ _ _ _ z=>z) (Kp.refl _ _) fun a z=>.inl (hS a z)⟩
 ·obtain⟨h1,h2,h3,h4⟩:=f.owi j a (yC e).2;exact⟨h1,h2,h3,by rw[List.length_set];exact h4⟩
 ·exact f.inj j k a (yC h1).2 (yC h2).2
theorem Stp.put{g:Gh}{ow:Ix->Option Addr}{i:Nat}{H:Hp}:Stp g ow H (putO ow i none) H:=⟨Kp.refl _ _,fun j a h=>.inl ⟨j,(yC h).2⟩⟩
noncomputable def sSet(i:Nat)(m:Env'->Mx D):Env'->Mx Out:=fun ρ=>m ρ >>= fun d=>pure (.nx (ρ.set i (some (Sl.val d))))
theorem yD{i:Nat}{x:Str}{pos':Pos}(hN:X.N.Nodup)(hi:X.N[i]?=some x)(hx:Loc X.env.scope x)(he:DE K Er X e m)(hs:swapsWith e (some (.Name x pos')) pos.line X.env=pure false:=by rfl)(hf:X.fn x=true\/X.env.scope.names.lookup x=some .local:=by first | exact .inl rfl | exact .inr rfl | assumption):
  DS K Er X (.Assign [.Name x pos'] e pos) (sSet i m):=(z29 hN hi hx he hs hf).imp fun σ H E h=>rs1 h fun g ow ρ n n1 d v H1 f k f1 r q=>q _ _ H1 (f1.setVal r) (Stp.put)
end
section
variable{K:W.Frag}{Er:Str->Hp->Prop}{X:Cx}{e a b c tg it elt:Expr}{es rest:List Expr}{m ma mb:Env'->Mx D}{mc mt:Env'->Mx Bool}{ms:Env'->Mx (List D)}{mi:Env'->Mx (List PyData)}{mf:Env'->Mx PyData}{pos p2:Pos}{st:Stmt}{sts tts:List Stmt}{sa sb:Env'->Mx Out}
variable{g:Gh}{ow:Ix->Option Addr}{ρ:Env'}{n n':Wd}{σ:St}{H H' H1:Hp}
theorem Frm.h0(f:Frm K g ow ρ n σ H){p:Addr}(h:H p=none):g.H0 p=none:=xZ f.ext f.twn h
theorem Frm.setOwn{x:PyData}{p:Addr}{i:Nat}(f:Frm K g ow ρ n σ H)(hp:H p=none)(k:Kp g.T H H1)(t:Twn g H1 n')(d:Dat1 N0 (fun b=>g.S ow b\/b=p) H1 x (.ref p))(hi:i<ρ.length)(hx:Pl H1 p):Frm K g (putO ow i (some p)) (ρ.set i (some (Sl.own x))) n' (σ.set i (some (.ref p))) H1:=by
 have hS:∀a,g.S (putO ow i (some p)) a->g.S ow a\/H a=none:=fun a z=>by
  rcases z with z | z | ⟨j,z⟩
  ·exact .inl (.inl z)
  ·exact .inl (.inr (.inl z))
  ·rcases yu z with ⟨_,rfl⟩ | ⟨_,z⟩
   ·exact .inr hp
   ·exact .inl (.inr (.inr ⟨j,z⟩))
 have kS:Kp (g.S ow) H H1:=k.mono Gh.ts;have h0:=f.h0 hp;have hT:¬g.T p:=fun z=>f.twn.dom z hp;have hU:¬g.U p:=fun z=>z.elim (fun z=>f.sub p z h0) hT;have hS2:∀a,g.S (putO ow i (some p)) a->(g.S ow a\/a=p)\/H1 a=none:=fun a z=>by
  rcases z with z | z | ⟨j,z⟩
  ·exact .inl (.inl (.inl z))
  ·exact .inl (.inl (.inr (.inl z)))
  ·rcases yu z with ⟨_,rfl⟩ | ⟨_,z⟩
   ·exact .inl (.inr rfl)
   ·exact .inl (.inl (.inr (.inr ⟨j,z⟩)))
 refine⟨f.scr,t,f.sub,f.ext.trans k,fun j d' e=>?_,fun j y e=>?_,fun j kl e=>?_,fun j a e=>?_,fun j l a h1 h2=>?_,by simp[f.len]⟩
 ·rw[zh]at e;split at e
  next c=>cases e
  next c=>
   obtain⟨v',e1,r1⟩:=f.val j d' e;refine⟨v',by rw[zh,if_neg (fun z=>c ⟨z.1,by rw[f.len];exact z.2⟩)];exact e1,r1.kp kS hS⟩
 ·rw[zh]at e;split at e
  next c=>
   cases e;refine⟨p,by rw[c.1,z5b],by rw[zh,if_pos ⟨c.1,by rw[<-f.len];exact c.2⟩],?_⟩;exact d.move (Kp.refl _ _) hS2 fun b e _ _=>⟨fun o z=>z,by cases e;exact hU⟩
  next c=>
   obtain⟨a,e0,e1,r1⟩:=f.own j y e;have hj:j≠i:=fun z=>c ⟨z,hi⟩;refine⟨a,by rw[wm hj];exact e0,by rw[zh,if_neg (fun z=>hj z.1)];exact e1,?_⟩;exact r1.move kS hS fun b e _ hb=>⟨fun o z=>k _ _ z (.inl fun z=>hb (.inr z)),hb⟩
 ·rw[zh]at e;split at e
  next c=>cases e
  next c=>
   obtain⟨v',e1,r1⟩:=f.dp j kl e;have hj:j≠i:=fun z=>c ⟨z,hi⟩;exact⟨v',by rw[zh,if_neg (fun z=>hj z.1)];exact e1,r1.move (fun l a z=>by rw[wm hj];exact z) (fun l a z o q=>k _ _ q (.inl (f.owi _ a z).2.2.1)) kS hS⟩
 ·rcases yu e with ⟨rfl,rfl⟩ | ⟨_,e⟩
  ·exact⟨h0,hx,hT,by rw[List.length_set];exact hi⟩
  ·obtain⟨h1,h2,h3,h4⟩:=f.owi j a e;exact⟨h1,h2.kp k h3,h3,by rw[List.length_set];exact h4⟩
 ·rcases yu h1 with ⟨z1,z2⟩ | ⟨_,g1⟩
  ·rcases yu h2 with ⟨z3,_⟩ | ⟨_,g2⟩
   ·rw[z1,z3]
   ·exact absurd hp (z2▸(f.owi l _ g2).2.1.some)
  ·rcases yu h2 with ⟨_,z2⟩ | ⟨_,g2⟩
   ·exact absurd hp (z2▸(f.owi j _ g1).2.1.some)
   ·exact f.inj j l a g1 g2
theorem Stp.own{i:Nat}{p:Addr}(hp:H p=none)(k:Kp g.T H H1):Stp g ow H (putO ow i (some p)) H1:=⟨k.mono fun a z=>.inr (.inl z),fun j a h=>by
 rcases yu h with ⟨_,rfl⟩ | ⟨_,h⟩
 ·exact .inr hp
 ·exact .inl ⟨j,h⟩⟩
noncomputable def sOwn(i:Nat)(m:Env'->Mx PyData):Env'->Mx Out:=fun ρ=>m ρ >>= fun x=>if i<ρ.length then pure (.nx (ρ.set i (some (Sl.own x))))else Mx.bad
theorem z3Y{i:Nat}{E:Ends}(h:rdS K Er (sOwn i mf) E σ H):rdG RF K Er mf σ H fun v H1=>E.nx (σ.set i (some v)) H1:=by
 refine rs0 h fun g ow ρ n n1 x v H1 f k f1 r q=>?_;obtain⟨p,rfl,hp,hpl,d⟩:=r;split at q
 next hi=>exact q _ _ _ (f.setOwn hp k f1.twn d hi hpl) (Stp.own hp k)
 next=>exact q.elim
theorem wx{i:Nat}{x:Str}{pos':Pos}(hN:X.N.Nodup)(hi:X.N[i]?=some x)(hx:Loc X.env.scope x)(he:DF K Er X e mf)(hs:swapsWith e (some (.Name x pos')) pos.line X.env=pure false:=by rfl)(hf:X.fn x=true\/X.env.scope.names.lookup x=some .local:=by first | exact .inl rfl | exact .inr rfl | assumption):
  DS K Er X (.Assign [.Name x pos'] e pos) (sOwn i mf):=(z29 hN hi hx he hs hf).imp fun σ H E h=>z3Y h
theorem z5q{i:Nat}{N N':List Str}{sc scope:Scope}{x y:Str}{ifs:List Expr}{px py spos:Pos}{tc:TT}(hc:X.calm=true)(hN:X.N=N)(hsc:X.env.scope=sc)(h:u9 N sc scope x N'=true)(hnd:X.N.Nodup)(hy:X.N[i]?=some y)(hl:X.env.scope.names.lookup y=some .local)
  (htc:∀σ H Q,rdG RT K Er mc σ H Q->tc σ H Q) (hi:DI true K Er X (.Name x px) it mi) (hf:∀C s H fp,PF (zY X scope N' C s H fp) ifs tc) (he:∀C s H fp,DE K Er (zY X scope N' C s H fp) elt m)
  (hsw:swapsWith (.ListComp elt [⟨.Name x px,it,ifs,0⟩] scope pos) (some (.Name y py)) spos.line X.env=pure true:=by rfl)
  (hs:∀x,foldedSetIterable it X.env x=pure x:=by intro _;rfl):DS K Er X (.Assign [.Name y py] (.ListComp elt [⟨.Name x px,it,ifs,0⟩] scope pos) spos) (sSet i (mP (yS mi mc m))):=
 (z2z hc hN hsc h hnd hy hl hi hf he hsw hs).imp fun σ H E h=>z0m rfl htc (by
  have e:sSet i (mP (yS mi mc m))=fun ρ=>yS mi mc m ρ >>= fun z=>pure (.nx (ρ.set i (some (Sl.val (.p z))))):=by
   funext ρ;unfold sSet mP;rw[yV];rfl
  rw[e]at h;refine rs1 h fun g ow ρ n n1 z v H1 f k f1 r q=>?_;obtain⟨p,rfl,hp,_,d⟩:=r;have hn:¬g.S ow p:=fun z=>f.dom p z hp;refine q _ _ H1 (f1.setVal ?_) Stp.put;show DatS _ _ z _;cases z<;>simp only[Dat1,DatS]at d |-
  case list=>obtain⟨b,xs,e,_,h1,h2⟩:=d;cases e;exact⟨p,xs,rfl,hn,h1,DatsS.kp (Kp.refl _ _) (fun _ z=>.inl (.inl z)) h2⟩
  case dict=>obtain⟨b,xs,e,_,h1,h2⟩:=d;cases e;exact⟨p,xs,rfl,hn,h1,DctS.kp (Kp.refl _ _) (fun _ z=>.inl (.inl z)) h2⟩
  case tuple=>obtain⟨b,xs,e,h1,h2⟩:=d;exact⟨b,xs,e,h1,DatsS.kp (Kp.refl _ _) (fun _ z=>.inl (.inl z)) h2⟩
  all_goals cases d)
theorem z58{i:Nat}{N N':List Str}{sc scope:Scope}{x y:Str}{ifs:List Expr}{px py spos:Pos}{tc:TT}(hc:X.calm=true)(hN:X.N=N)(hsc:X.env.scope=sc)(h:u9 N sc scope x N'=true)(hnd:X.N.Nodup)(hy:X.N[i]?=some y)(hl:X.env.scope.names.lookup y=some .local)
  (htc:∀σ H Q,rdG RT K Er mc σ H Q->tc σ H Q) (hi:DI true K Er X (.Name x px) it mi) (hf:∀C s H fp,PF (zY X scope N' C s H fp) ifs tc) (he:∀C s H fp,DE K Er (zY X scope N' C s H fp) elt m)
  (hsw:swapsWith (.ListComp elt [⟨.Name x px,it,ifs,0⟩] scope pos) (some (.Name y py)) spos.line X.env=pure true:=by rfl)
  (hs:∀x,foldedSetIterable it X.env x=pure x:=by intro _;rfl):DS K Er X (.Assign [.Name y py] (.ListComp elt [⟨.Name x px,it,ifs,0⟩] scope pos) spos) (sOwn i (yS mi mc m)):=
 (z2z hc hN hsc h hnd hy hl hi hf he hsw hs).imp fun σ H E h=>z0m rfl htc (z3Y h)
noncomputable def ownL(ρ:Env')(i:Nat):Option (List PyData):=match ρ[i]? with
 | some (some (Sl.own (.list l)))=>some l
 | _=>none
noncomputable def ownD(ρ:Env')(i:Nat):Option (List (PyData×PyData)):=match ρ[i]? with
 | some (some (Sl.own (.dict l)))=>some l
 | _=>none
theorem z06{i:Nat}{l:List PyData}(h:ownL ρ i=some l):ρ[i]?=some (some (Sl.own (.list l))):=by
 unfold ownL at h;split at h
 next l' e=>cases h;exact e
 next=>cases h
theorem ui{i:Nat}{l:List (PyData×PyData)}(h:ownD ρ i=some l):ρ[i]?=some (some (Sl.own (.dict l))):=by
 unfold ownD at h;split at h
 next l' e=>cases h;exact e
 next=>cases h
theorem Frm.ownLst{i:Nat}{l:List PyData}(f:Frm K g ow ρ n σ H)(h:ownL ρ i=some l):∃a xs,ow (i,0)=some a/\σ[i]?=some (some (.ref a))/\H a=some (.lst xs)/\DatsS (g.S ow) H l xs:=by
 obtain⟨a,e1,e2,d⟩:=f.own i _ (z06 h);simp only[Dat1]at d;obtain⟨b,xs,e,_,h1,h2⟩:=d;cases e;exact⟨a,xs,e1,e2,h1,h2⟩
theorem Frm.kpOwn{i:Ix}{a:Addr}{o:HO}(f:Frm K g ow ρ n σ H)(hi:ow i=some a)(hm:∀xs,H a≠some (.tup xs)):Kp (g.S ow) H (upd H a o):=fun b u h k=>by
 by_cases e:b=a
 ·subst e;rcases k with k | ⟨xs,rfl⟩
  ·exact absurd (.inr (.inr ⟨i,hi⟩)) k
  ·exact absurd h (hm xs)
 ·rw[zI e];exact h
theorem Frm.updOwn{i:Nat}{a:Addr}{x x':PyData}{o:HO}(f:Frm K g ow ρ n σ H)(he:ρ[i]?=some (some (Sl.own x)))(hi:ow (i,0)=some a)(hm:∀xs,H a≠some (.tup xs))(d:Dat1 N0 (g.S ow) (upd H a o) x' (.ref a))(hpl:∀ob u,o≠.frz ob u:=by intro _ _ z;cases z):Frm K g ow (ρ.set i (some (Sl.own x'))) n σ (upd H a o):=by
 have kS:=f.kpOwn (o:=o) hi hm;obtain⟨h0,h1,h2,h3⟩:=f.owi _ a hi;have hU:¬g.U a:=fun z=>z.elim (fun z=>f.sub a z h0) h2;obtain⟨a',ea,es,_⟩:=f.own i x he;rw[hi]at ea;cases ea;refine⟨f.scr,f.twn.updT h2 hm,f.sub,fun b u h k=>?_,fun j d' e=>?_,fun j y e=>?_,fun j kl e=>?_,fun j b e=>?_,f.inj,by simp[f.len]⟩
 ·rw[zI (zb h h0)];exact f.ext b u h k
 ·rw[zh]at e;split at e
  next c=>cases e
  next c=>
   obtain⟨v',e1,r1⟩:=f.val j d' e;exact⟨v',e1,r1.kp kS fun _ z=>.inl z⟩
 ·rw[zh]at e;split at e
  next c=>
   cases e;rw[c.1];exact⟨a,hi,es,d.move (Kp.refl _ _) (fun _ z=>.inl z) fun b e _ _=>⟨fun o z=>z,by cases e;exact hU⟩⟩
  next c=>
   obtain⟨b,e0,e1,r1⟩:=f.own j y e;have hj:j≠i:=fun z=>c ⟨z,h3⟩;have hb:b≠a:=fun z=>hj (congrArg Prod.fst (f.inj (j,0) (i,0) a (z▸e0) hi));refine⟨b,e0,e1,r1.move kS (fun _ z=>.inl z) fun q e _ hq=>⟨fun o z=>by cases e;rw[zI hb];exact z,hq⟩⟩
 ·rw[zh]at e;split at e
  next c=>cases e
  next c=>
   obtain⟨v',e1,r1⟩:=f.dp j kl e;have hj:j≠i:=fun z=>c ⟨z,h3⟩;exact⟨v',e1,r1.move (fun l a z=>z) (fun l b z o q=>by rw[zI (show b≠a from fun y=>hj (congrArg Prod.fst (f.inj (j,l) (i,0) a (y▸z) hi)))];exact q) kS fun _ z=>.inl z⟩
 ·obtain⟨q0,q1,q2,q3⟩:=f.owi j b e;refine⟨q0,?_,q2,by rw[List.length_set];exact q3⟩;by_cases z:b=a
  ·subst z;exact Pl.upd hpl
  ·obtain⟨o,e,n⟩:=q1;exact⟨o,by rw[zI z];exact e,n⟩
theorem Stp.upd{i:Ix}{a:Addr}{o:HO}(f:Frm K g ow ρ n σ H)(hi:ow i=some a)(hm:∀xs,H a≠some (.tup xs)):Stp g ow H ow (upd H a o):=⟨f.kpOwn hi hm,fun j b h=>.inl ⟨j,h⟩⟩
noncomputable def sApp(i:Nat)(m:Env'->Mx D):Env'->Mx Out:=fun ρ=>Mx.opt (ownL ρ i) >>= fun l=>m ρ >>= fun d=>Mx.opt ((onP some d).bind fun y=>if l.length<lim then some (Out.nx (ρ.set i (some (Sl.own (.list (l++[y]))))))else none)
theorem z0T{α:Type}{o:Option α}{f:α->Mx Out}{E:Ends}(h:AftS K g ow H Er ((Mx.opt o >>= f) n) E):∃a,o=some a/\AftS K g ow H Er (f a n) E:=by
 cases o with
 | none=>exact h.elim
 | some a=>exact⟨a,rfl,h⟩
theorem rs_o{o:Option Out}{E:Ends}(h:AftS K g ow H Er (Mx.opt o n) E):∃a,o=some a/\AftS K g ow H Er (.ok a n) E:=by
 cases o with
 | none=>exact h.elim
 | some a=>exact⟨a,rfl,h⟩
theorem wn{γ δ:Type}{R:RG γ δ}{m:Mx γ}{f:γ->Mx Out}{E:Ends}{Z:δ->Hp->Prop}(fr:Frm K g ow ρ n σ H)(q:AftS K g ow H Er ((m >>= f) n) E)
  (k:∀n1 x v H1,Kp g.T H H1->Frm K g ow ρ n1 σ H1->R g (g.S ow) H H1 x v->AftS K g ow H1 Er (f x n1) E->Z v H1):AftG (R g (g.S ow)) g Er H (m n) Z:=by
 rw[Mx.bind_def]at q;cases o:m n with
 | ok x n1=>rw[o]at q;exact fun v H1 k1 t1 r1=>k n1 x v H1 k1 (fr.kp k1 t1) r1 (AftS.later q (fr.kp k1 t1).dom (Stp.of k1))
 | err c n1=>rw[o]at q;exact q
 | bad=>rw[o]at q;exact q
theorem not_tup{xs:List V}{a:Addr}(h:H a=some (.lst xs)):∀ys,H a≠some (.tup ys):=fun ys z=>by rw[h]at z;cases z
theorem z5C{i:Nat}(h:PE X e (tBM X.K "list" z2q (tVar i) (z0B (rdG RE K Er m) tNil)))(hs:swapsWith e none pos.line X.env=pure false:=by rfl):DS K Er X (.Expr e pos) (sApp i m):=(z13 h hs).imp fun σ H E h=>by
 obtain⟨g,ow,ρ,n,f,q⟩:=h;obtain⟨l,el,q⟩:=z0T q;obtain⟨a,xs,e1,e2,e3,e4⟩:=f.ownLst el;refine⟨.ref a,e2,.inl ⟨rfl,xs,SqL.of e3⟩,g,ow,ρ,n,f,wn f q fun n1 d v H1 k f1 r q=>?_⟩;obtain⟨out,eo,q⟩:=rs_o q;obtain⟨y,ey,eo⟩:=Option.bind_eq_some_iff.mp eo;obtain⟨y',rfl,ey⟩:=zf ey;cases ey;split at eo
 next hl=>
  cases eo;obtain⟨a',xs',g1,g2,g3,g4⟩:=f1.ownLst el;rw[e1]at g1;cases g1;refine⟨a,xs',v,rfl,rfl,g3,Nat.lt_of_lt_of_le (by rw[<-g4.length];exact hl) (yt (Nat.le_refl _)),?_⟩;have kS:=f1.kpOwn (o:=.lst (xs'++[v])) e1 (not_tup g3);refine q _ _ _ (f1.updOwn (z06 el) e1 (not_tup g3) ?_) (Stp.upd f1 e1 (not_tup g3));simp only[Dat1];exact⟨a,_,rfl,id,zG,(DatsS.kp kS (fun _ z=>.inl z) g4).append (.cons (DatS.kp kS (fun _ z=>.inl z) r) .nil)⟩
 next=>cases eo
end
section
variable{K:W.Frag}{Er:Str->Hp->Prop}{X:Cx}{e a b c tg it elt:Expr}{es rest:List Expr}{m ma mb:Env'->Mx D}{mc mt:Env'->Mx Bool}{ms:Env'->Mx (List D)}{mi:Env'->Mx (List PyData)}{mf:Env'->Mx PyData}{pos p2:Pos}{st:Stmt}{sts tts:List Stmt}{sa sb:Env'->Mx Out}
variable{g:Gh}{ow:Ix->Option Addr}{ρ:Env'}{n n':Wd}{σ:St}{H H' H1:Hp}
noncomputable def sExt(i:Nat)(m:Env'->Mx D):Env'->Mx Out:=fun ρ=>Mx.opt (ownL ρ i) >>= fun l=>m ρ >>= fun d=>Mx.opt ((onP (fun x=>match x with | .list z=>some z | _=>none) d).bind fun z=>if l.length+z.length<=lim then some (Out.nx (ρ.set i (some (Sl.own (.list (l++z))))))else none)
theorem zAX{i:Nat}(h:PE X e (tBM X.K "list" z54 (tVar i) (z0B (rdG RE K Er m) tNil)))(hs:swapsWith e none pos.line X.env=pure false:=by rfl):DS K Er X (.Expr e pos) (sExt i m):=(z13 h hs).imp fun σ H E h=>by
 obtain⟨g,ow,ρ,n,f,q⟩:=h;obtain⟨l,el,q⟩:=z0T q;obtain⟨a,xs,e1,e2,e3,e4⟩:=f.ownLst el;refine⟨.ref a,e2,.inl ⟨rfl,xs,SqL.of e3⟩,g,ow,ρ,n,f,wn f q fun n1 d v H1 k f1 r q=>?_⟩;obtain⟨out,eo,q⟩:=rs_o q;obtain⟨y,ey,eo2⟩:=Option.bind_eq_some_iff.mp eo;obtain⟨y',rfl,ey2⟩:=zf ey;cases y'<;>simp only at ey2<;>cases ey2;split at eo2
 next hl=>
  cases eo2;obtain⟨a',xs',g1,g2,g3,g4⟩:=f1.ownLst el;rw[e1]at g1;cases g1;obtain⟨b,zs,rfl,hb,b1,b2⟩:=(show ∃b zs,v=.ref b/\¬g.S ow b/\H1 b=some (.lst zs)/\DatsS (g.S ow) H1 y zs by simpa only[Rep,DatS]using r);refine⟨a,b,xs',zs,rfl,rfl,g3,b1,yt (by rw[<-g4.length,<-b2.length];exact hl),?_⟩;have kS:=f1.kpOwn (o:=.lst (xs'++zs)) e1 (not_tup g3);refine q _ _ _ (f1.updOwn (z06 el) e1 (not_tup g3) ?_) (Stp.upd f1 e1 (not_tup g3));simp only[Dat1];exact⟨a,_,rfl,id,zG,(DatsS.kp kS (fun _ z=>.inl z) g4).append (DatsS.kp kS (fun _ z=>.inl z) b2)⟩
 next=>cases eo2
theorem DatsS.erase{S:Addr->Prop}:∀{ds:List PyData} {xs:List V} (k:Nat),DatsS S H ds xs->DatsS S H (ds.eraseIdx k) (xs.eraseIdx k)
 | [],_,_,h=>by simp only[DatsS]at h;subst h;exact .nil
 | _::_,_,0,h=>by
  simp only[DatsS]at h;obtain⟨x,r,rfl,h1,h2⟩:=h;exact h2
 | _::_,_,k+1,h=>by
  simp only[DatsS]at h;obtain⟨x,r,rfl,h1,h2⟩:=h;exact .cons h1 (DatsS.erase k h2)
noncomputable def z3L(i j:Nat)(m:Env'->Mx D):Env'->Mx Out:=fun ρ=>Mx.opt (ownL ρ j) >>= fun l=>m ρ >>= fun d=>Mx.opt ((onP (fun x=>match x with | .int k=>some k | _=>none) d).bind fun k=>if -1000000<=k/\k<=1000000/\i≠j then(seqIndex? k l.length).bind fun p=>l[p]?.map fun y=>Out.nx ((ρ.set j (some (Sl.own (.list (l.eraseIdx p))))).set i (some (Sl.val (.p y))))else none)
theorem z7P{i j:Nat}{x:Str}{pos':Pos}(hN:X.N.Nodup)(hi:X.N[i]?=some x)(hx:Loc X.env.scope x)(h:PE X e (tBM X.K "list" z8p (tVar j) (z0B (rdG RE K Er m) tNil)))(hs:swapsWith e (some (.Name x pos')) pos.line X.env=pure false:=by rfl)(hf:X.fn x=true\/X.env.scope.names.lookup x=some .local:=by first | exact .inl rfl | exact .inr rfl | assumption):
  DS K Er X (.Assign [.Name x pos'] e pos) (z3L i j m):=(z29 hN hi hx h hs hf).imp fun σ H E h=>by
 obtain⟨g,ow,ρ,n,f,q⟩:=h;obtain⟨l,el,q⟩:=z0T q;obtain⟨a,xs,e1,e2,e3,e4⟩:=f.ownLst el;refine⟨.ref a,e2,.inl ⟨rfl,xs,SqL.of e3⟩,g,ow,ρ,n,f,wn f q fun n1 d v H1 k f1 r q=>?_⟩;obtain⟨out,eo,q⟩:=rs_o q;obtain⟨y,ey,eo2⟩:=Option.bind_eq_some_iff.mp eo;obtain⟨y',rfl,ey2⟩:=zf ey;cases y'<;>simp only at ey2<;>cases ey2;split at eo2
 next hl=>
  obtain⟨p,ep,eo3⟩:=Option.bind_eq_some_iff.mp eo2;obtain⟨z,ez,eo4⟩:=Option.map_eq_some_iff.mp eo3;subst eo4;obtain⟨a',xs',g1,g2,g3,g4⟩:=f1.ownLst el;rw[e1]at g1;cases g1;obtain⟨u,eu,ru⟩:=g4.get ez;refine⟨a,xs',_,p,u,rfl,by rw[show v=.int _ by simpa only[Rep,DatS]using r],g3,by omega,by omega,by rw[<-g4.length];exact ep,eu,?_⟩;have kS:=f1.kpOwn (o:=.lst (xs'.eraseIdx p)) e1 (not_tup g3);have f2:=f1.updOwn (o:=.lst (xs'.eraseIdx p)) (x':=.list (l.eraseIdx p)) (z06 el) e1 (not_tup g3) (by
   simp only[Dat1];exact⟨a,_,rfl,id,zG,DatsS.kp kS (fun _ z=>.inl z) (g4.erase p)⟩)
  exact q _ _ _ (f2.setVal (i:=i) (d:=.p z) (DatS.kp kS (fun _ z=>.inl z) ru)) ((Stp.upd f1 e1 (not_tup g3)).trans f2.dom Stp.put)
 next=>cases eo2
noncomputable def z9N(i j:Nat):Env'->Mx Out:=fun ρ=>Mx.opt (match ρ[j]? with
 | some (some (Sl.own x))=>if i≠j then some (Out.nx ((ρ.set j none).set i (some (Sl.val (.p x)))))else none
 | _=>none)
theorem Frm.drop{j:Nat}(f:Frm K g ow ρ n σ H):Frm K g (putO ow j none) (ρ.set j none) n σ H:=by
 have hS:∀a,g.S (putO ow j none) a->g.S ow a:=fun a z=>by
  rcases z with z | z | ⟨l,z⟩
  ·exact .inl z
  ·exact .inr (.inl z)
  ·exact .inr (.inr ⟨l,(yC z).2⟩)
 refine⟨f.scr,f.twn,f.sub,f.ext,fun i d' e=>?_,fun i x e=>?_,fun i kl e=>?_,fun i a e=>?_,fun i k a h1 h2=>?_,by simp[f.len]⟩
 ·rw[zh]at e;split at e
  ·cases e
  ·obtain⟨v',e1,r1⟩:=f.val i d' e;exact⟨v',e1,r1.shift rfl rfl hS⟩
 ·rw[zh]at e;split at e
  ·cases e
  next c=>
   obtain⟨a,e0,e1,r1⟩:=f.own i x e;have hj:i≠j:=fun z=>c ⟨z,by rw[<-z];exact(List.getElem?_eq_some_iff.mp e).1⟩;refine⟨a,by rw[wm hj];exact e0,e1,r1.move (Kp.refl _ _) (fun a z=>.inl (hS a z)) fun b _ _ hb=>⟨fun o z=>z,hb⟩⟩
 ·rw[zh]at e;split at e
  ·cases e
  next c=>
   obtain⟨v',e1,r1⟩:=f.dp i kl e;have hj:i≠j:=fun z=>c ⟨z,by rw[<-z];exact(List.getElem?_eq_some_iff.mp e).1⟩;exact⟨v',e1,r1.move (fun l a z=>by rw[wm hj];exact z) (fun _ _ _ _ z=>z) (Kp.refl _ _) fun a z=>.inl (hS a z)⟩
 ·obtain⟨h1,h2,h3,h4⟩:=f.owi i a (yC e).2;exact⟨h1,h2,h3,by rw[List.length_set];exact h4⟩
 ·exact f.inj i k a (yC h1).2 (yC h2).2
theorem zA5{i j:Nat}{x:Str}{pos':Pos}(hN:X.N.Nodup)(hi:X.N[i]?=some x)(hx:Loc X.env.scope x)(h:PE X e (tVar j))(hs:swapsWith e (some (.Name x pos')) pos.line X.env=pure false:=by rfl)(hf:X.fn x=true\/X.env.scope.names.lookup x=some .local:=by first | exact .inl rfl | exact .inr rfl | assumption):
  DS K Er X (.Assign [.Name x pos'] e pos) (z9N i j):=(z29 hN hi hx h hs hf).imp fun σ H E h=>by
 obtain⟨g,ow,ρ,n,f,q⟩:=h;obtain⟨out,eo,q⟩:=rs_o q;split at eo
 next y ey=>
  split at eo
  next hij=>
   cases eo;obtain⟨a,e1,e2,d⟩:=f.own j y ey;have hna:¬g.S (putO ow j none) a:=fun z=>by
    have h0:=(f.owi _ a e1).1;rcases z with z | z | ⟨l,z⟩
    ·exact f.sub a z h0
    ·exact(f.owi _ a e1).2.2.1 z
    ·obtain⟨c,z⟩:=yC z;exact c (congrArg Prod.fst (f.inj l (j,0) a z e1))
   have hS:∀b,g.S (putO ow j none) b->g.S ow b:=fun b z=>by
    rcases z with z | z | ⟨l,z⟩
    ·exact .inl z
    ·exact .inr (.inl z)
    ·exact .inr (.inr ⟨l,(yC z).2⟩)
   refine⟨.ref a,e2,q _ _ _ ((f.drop (j:=j)).setVal (i:=i) (d:=.p y) ?_) (Stp.put.trans (f.drop (j:=j)).dom Stp.put)⟩;show DatS _ _ y _;cases y<;>simp only[Dat1,DatS]at d |-
   case list=>obtain⟨b,xs,e,_,h1,h2⟩:=d;cases e;exact⟨a,xs,rfl,hna,h1,DatsS.kp (Kp.refl _ _) (fun b z=>.inl (hS b z)) h2⟩
   case dict=>obtain⟨b,xs,e,_,h1,h2⟩:=d;cases e;exact⟨a,xs,rfl,hna,h1,DctS.kp (Kp.refl _ _) (fun b z=>.inl (hS b z)) h2⟩
   case tuple=>obtain⟨b,xs,e,h1,h2⟩:=d;exact⟨b,xs,e,h1,DatsS.kp (Kp.refl _ _) (fun b z=>.inl (hS b z)) h2⟩
   all_goals cases d
  next=>cases eo
 next=>cases eo
noncomputable def rdTg(K:W.Frag)(τ:Env'->PyData->Option Env'):TG:=fun v σ H Q=>∃g ow ρ n d ρ',Frm K g ow ρ n σ H/\DatS (g.S ow) H d v/\τ ρ d=some ρ'/\∀ow' σ',Frm K g ow' ρ' n σ' H->Stp g ow H ow' H->Q σ' H
noncomputable abbrev DTg(K:W.Frag)(X:Cx)(tg:Expr)(τ:Env'->PyData->Option Env'):Prop:=PG X tg (rdTg K τ)
theorem PG.imp{t t':TG}(h:PG X tg t)(k:∀v σ H Q,t' v σ H Q->t v σ H Q):PG X tg t':=fun pins s σ H v u Q I r q=>h pins s σ H v u Q I r (k v σ H Q q)
noncomputable def τ1(i:Nat):Env'->PyData->Option Env':=fun ρ d=>some (ρ.set i (some (Sl.val (.p d))))
theorem xD{i:Nat}(h:PG X tg (z1G i)):DTg K X tg (τ1 i):=h.imp fun v σ H Q ⟨g,ow,ρ,n,d,ρ',f,r,e,q⟩=>by
 cases e;exact q _ _ (f.setVal (d:=.p d) r) Stp.put
noncomputable def u7(k:Env'->Mx Out):Out->Mx Out
 | .nx ρ=>k ρ
 | .ct ρ=>k ρ
 | .bk ρ=>pure (.nx ρ)
 | .rt d=>pure (.rt d)
noncomputable def xb(τ:Env'->PyData->Option Env')(body:Env'->Mx Out):List PyData->Env'->Mx Out
 | [],ρ=>pure (.nx ρ)
 | d::r,ρ=>Mx.opt (τ ρ d) >>= fun ρ1=>body ρ1 >>= u7 (xb τ body r)
noncomputable def sFor(mi:Env'->Mx (List PyData))(τ:Env'->PyData->Option Env')(body:Env'->Mx Out):Env'->Mx Out:=fun ρ=>mi ρ >>= fun ds=>xb τ body ds ρ
theorem z2G{E:Ends}{k:Env'->Mx Out}{mm:Mx Out}{N:St->Hp->Prop}(q:AftS K g ow H Er ((mm >>= u7 k) n) E)
  (hN:∀ow' ρ' n' σ' H',Frm K g ow' ρ' n' σ' H'->Stp g ow H ow' H'->AftS K g ow' H' Er (k ρ' n') E->N σ' H'):AftS K g ow H Er (mm n) { E with nx:=N,ct:=N,bk:=E.nx }:=by
 rw[Mx.bind_def]at q;cases r:mm n with
 | ok o n'=>
  rw[r]at q;cases o with
  | nx ρ2=>exact fun ow' σ' H' f s=>hN ow' ρ2 n' σ' H' f s (AftS.later q f.dom s)
  | ct ρ2=>exact fun ow' σ' H' f s=>hN ow' ρ2 n' σ' H' f s (AftS.later q f.dom s)
  | bk ρ2=>exact q
  | rt d=>exact q
 | err c n'=>rw[r]at q;exact q
 | bad=>rw[r]at q;exact q
theorem z7R{τ:Env'->PyData->Option Env'}{E:Ends}(h:rdS K Er (sFor mi τ sa) E σ H):tFor (rdG (RI false) K Er mi) (rdTg K τ) (rdS K Er sa) E σ H:=by
 refine rs1 h fun g ow ρ n n1 ds J H1 f _ f1 ⟨hl,xs,hd,wk⟩ q=>?_;rw[if_neg Bool.false_ne_true]at wk;have hlen:=hd.length;refine⟨fun i mm σ' H'=>mm=xs.length - i/\i<=xs.length/\∃ow' ρ' n',Frm K g ow' ρ' n' σ' H'/\Stp g ow H1 ow' H'/\AftS K g ow' H' Er (xb τ sa (ds.drop i) ρ' n') E,⟨xs.length,by simp,Nat.zero_le _,ow,ρ,n1,f1,Stp.refl,q⟩,?_⟩;rintro i mm σ' H' ⟨rfl,hi,ow',ρ',n',f',s',q'⟩;by_cases hlt:i<xs.length
 ·refine .inr ⟨wk.go i H' s'.kp hlt,fun σ2 H2=>∃ow2 ρ2 n2,Frm K g ow2 ρ2 n2 σ2 H2/\Stp g ow H1 ow2 H2/\AftS K g ow2 H2 Er (xb τ sa (ds.drop (i+1)) ρ2 n2) E,fun σ2 H2 p=>⟨xs.length - (i+1),by omega,rfl,hlt,p⟩,fun x H2 y=>?_⟩;obtain⟨rfl,hx⟩:=wk.yld i H' x H2 s'.kp y;have hx:=hx hlt;have hid:i<ds.length:=by omega
  obtain⟨v',ev,rv⟩:=hd.get (List.getElem?_eq_getElem hid);rw[hx]at ev;cases ev;rw[List.drop_eq_getElem_cons hid]at q';simp only[xb]at q';obtain⟨ρ1,e1,q1⟩:=z0T q';have rv':DatS (g.S ow') H2 ds[i] x:=DatS.kp s'.kp (fun a z=>by
   rcases z with z | z | ⟨l,z⟩
   ·exact .inl (.inl z)
   ·exact .inl (.inr (.inl z))
   ·rcases s'.ow l a z with q | q
    ·exact .inl (.inr (.inr q))
    ·exact .inr q) rv
  refine⟨g,ow',ρ',n',ds[i],ρ1,f',rv',e1,fun ow3 σ3 f3 s3=>⟨g,ow3,ρ1,n',f3,?_⟩⟩;refine z2G (k:=xb τ sa (ds.drop (i+1))) (AftS.later q1 f3.dom s3) fun ow4 ρ4 n4 σ4 H4 f4 s4 q4=>⟨ow4,ρ4,n4,f4,s'.trans f'.dom (s3.trans f3.dom s4),q4⟩
 ·have e:i=xs.length:=by omega
  subst e;rw[List.drop_of_length_le (by omega)]at q';exact .inl ⟨wk.stop H' s'.kp,q' ow' σ' H' f' Stp.refl⟩
theorem w9{τ:Env'->PyData->Option Env'}(hp:PassesOwn (model X.prog X.w) X.A X.env X.xe)(hc:X.calm=true)(hi:DI false K Er X tg it mi)(hg:DTg K X tg τ)(hb:DSs K Er X sts sa)(hs:∀x,foldedSetIterable it X.env x=pure x:=by intro _;rfl):DS K Er X (.For tg it sts [] pos) (sFor mi τ sa):=
 (zCE hp hc hi hg hb hs).imp fun σ H E h=>z7R h
noncomputable def z0D(c:Env'->Mx Bool)(body:Env'->Mx Out):Nat->Env'->Mx Out
 | 0,_=>Mx.bad
 | k+1,ρ=>c ρ >>= fun t=>if t=true then(body ρ >>= u7 (z0D c body k))else pure (.nx ρ)
noncomputable def z0O(k:Nat)(c:Env'->Mx Bool)(body:Env'->Mx Out):Env'->Mx Out:=fun ρ=>z0D c body k ρ
theorem z4L{k:Nat}{E:Ends}(h:rdS K Er (z0O k mc sa) E σ H):z8r (rdG RT K Er mc) (rdS K Er sa) E σ H:=by
 obtain⟨g,ow,ρ,n,f,q⟩:=h;refine⟨fun mm σ' H'=>∃ow' ρ' n',Frm K g ow' ρ' n' σ' H'/\AftS K g ow' H' Er (z0D mc sa mm ρ' n') E,⟨k,ow,ρ,n,f,q⟩,?_⟩;rintro mm σ' H' ⟨ow',ρ',n',f',q'⟩;cases mm with
 | zero=>exact q'.elim
 | succ mm=>
  simp only[z0D]at q';refine⟨g,ow',ρ',n',f',wn f' q' fun n1 t t' H1 k1 f1 r1 q1=>?_⟩;cases r1;cases t with
  | false=>exact ite_ff (q1 ow' σ' H1 f1 Stp.refl)
  | true=>
   refine ite_tt ⟨fun σ2 H2=>∃ow2 ρ2 n2,Frm K g ow2 ρ2 n2 σ2 H2/\AftS K g ow2 H2 Er (z0D mc sa mm ρ2 n2) E,fun σ2 H2 p=>⟨mm,Nat.lt_succ_self _,p⟩,g,ow',ρ',n1,f1,?_⟩;have q1:AftS K g ow' H1 Er ((sa ρ' >>= u7 (z0D mc sa mm)) n1) E:=q1;exact z2G (k:=z0D mc sa mm) q1 fun ow4 ρ4 n4 σ4 H4 f4 s4 q4=>⟨ow4,ρ4,n4,f4,q4⟩
theorem z3F{k:Nat}(hp:PassesOwn (model X.prog X.w) X.A X.env X.xe)(hc:DT K Er X c mc)(hb:DSs K Er X sts sa):DS K Er X (.While c sts [] pos) (z0O k mc sa):=(z88 hp hc hb).imp fun σ H E h=>z4L h
end
noncomputable def outD:Out->Mx D
 | .rt d=>pure d
 | .nx _=>pure (.p .none)
 | _=>Mx.bad
noncomputable def mFn(nn ar:Nat)(m:Env'->Mx Out)(ds:List D):Mx D:=if ds.length=ar then(m (ds.map (fun d=>some (Sl.val d))++List.replicate (nn - ar) none) >>= outD)else Mx.bad
theorem z6B{K:W.Frag}{g:Gh}{n:Wd}{nn:Nat}{ds:List D}{vs:List V}{H:Hp}(h0:g.H0=H)(hs:Scp K g H)(ht:Twn g H n)(hd:∀a,g.S0 a->H a≠none)(r:All2 (Rep g g.U H) ds vs):
  Frm K g (fun _=>none) (ds.map (fun d=>some (Sl.val d))++List.replicate (nn - ds.length) none) n (vs.map some++List.replicate (nn - vs.length) none) H:=by
 have hl:=r.length;have hS:∀a,g.S (fun _=>none) a->g.U a:=fun a z=>z.elim .inl fun z=>z.elim .inr fun⟨_,z⟩=>nomatch z;have get:∀{ds:List D} {vs:List V},All2 (Rep g g.U H) ds vs->∀(i:Nat) (d:D),ds[i]?=some d->∃v,vs[i]?=some v/\Rep g g.U H d v:=by
  intro ds vs r
  induction r with
  | nil=>intro i d e;simp at e
  | cons r1 _ ih=>
   intro i d e;cases i with
   | zero=>simp at e;subst e;exact⟨_,rfl,r1⟩
   | succ i=>simpa using ih i d (by simpa using e)
 have part:∀(i:Nat) (s:Sl),(ds.map (fun d=>some (Sl.val d))++List.replicate (nn - ds.length) none)[i]?=some (some s)->∃d,ds[i]?=some d/\s=Sl.val d:=fun i s e=>by
  by_cases hi:i<ds.length
  ·rw[List.getElem?_append_left (by simpa using hi),List.getElem?_map,List.getElem?_eq_getElem hi]at e;cases e;exact⟨_,List.getElem?_eq_getElem hi,rfl⟩
  ·rw[List.getElem?_append_right (by simpa using hi),List.getElem?_replicate]at e;split at e<;>cases e
 refine⟨by rw[h0];exact hs,ht,by rw[h0];exact hd,by rw[h0];exact Kp.refl _ _,fun i d e=>?_,fun i x e=>?_,fun i kl e=>?_,fun i a e=>(nomatch e),fun i j a e=>(nomatch e),by simp[hl]⟩
 ·obtain⟨d',e1,e2⟩:=part i _ e;cases e2;obtain⟨v,e3,r3⟩:=get r i d e1;have hi:i<vs.length:=(List.getElem?_eq_some_iff.mp e3).1;exact⟨v,by rw[List.getElem?_append_left (by simpa using hi),List.getElem?_map,e3];rfl,r3.shift rfl rfl hS⟩
 ·obtain⟨d',e1,e2⟩:=part i _ e;cases e2
 ·obtain⟨d',e1,e2⟩:=part i _ e;cases e2
section
variable{P:Program}{w:World}{K:W.Frag}{mg:Str->Option Value}{base:Heap}
theorem zCT{x qual:Str}{st:Stmt}{f:Addr}{fd:FuncData}{N ps:List Str}{k:Nat}{m:Env'->Mx Out}(F:Fun K x qual st f fd)(S:FnScope N ps (zC st))
  (h:∀(cdv:Value) (A:Around) (outer:List Env) (s:Shared) (H:Hp) (E:XK),Room k (A.deeper (envOfC qual (zC st) s.heap.objs.size f cdv))->DSs K (fun _ _=>False) (cxOf CX0 P w K mg base N qual (zC st) f cdv A outer s H E).nox (yb st) m) :
  FnOk P w K mg base CX0 (k+1) f fd ps (spD K EW0 (mFn N.length ps.length m)):=by
 have alen:∀{vs:List V} {H:Hp} {Q:VK} {E:XK},spD K EW0 (mFn N.length ps.length m) vs H Q E->vs.length=ps.length:=fun{vs H Q E} ⟨g,n,ds,_,_,_,_,r,q⟩=>by
  by_cases e:ds.length=ps.length
  ·rw[<-r.length];exact e
  ·unfold mFn at q;rw[if_neg e]at q;exact q.elim
 refine F.ok S (fun vs H Q E h=>alen h) fun cdv A outer s H vs Q E hr hsp=>⟨_,h cdv A outer s H E hr,?_⟩;have hl:=alen hsp;obtain⟨g,n,ds,h0,hs,ht,hd,r,q⟩:=hsp;have e:ds.length=ps.length:=by rw[r.length];exact hl
 unfold mFn at q;rw[if_pos e,<-e]at q;refine⟨g,fun _=>none,ds.map (fun d=>some (Sl.val d))++List.replicate (N.length - ds.length) none,n,?_,?_⟩
 ·exact z6B (nn:=N.length) h0 hs ht hd r
 ·rw[Mx.bind_def]at q;subst h0;cases o:m (ds.map (fun d=>some (Sl.val d))++List.replicate (N.length - ds.length) none) n with
  | ok out n'=>
   rw[o]at q;cases out with
   | nx ρ=>exact fun ow' σ' H' f' _=>q .non H' f'.ext f'.twn (dn:DatS g.U H' .none .non)
   | rt d=>exact fun v H' k t r=>q v H' k t r
   | bk ρ=>exact q.elim
   | ct ρ=>exact q.elim
  | err c n'=>rw[o]at q;exact fun H' k t=>(q H' k t).elim
  | bad=>rw[o]at q;exact q
theorem zg{x qual:Str}{st:Stmt}{f:Addr}{fd:FuncData}{N ps:List Str}{k nn ar:Nat}{m:Env'->Mx Out}{F':List D->Mx D}(F:Fun K x qual st f fd)(S:FnScope N ps (zC st))(hn:N.length=nn)(ha:ps.length=ar)(hF:F'=mFn nn ar m)
  (h:∀(cdv:Value) (A:Around) (outer:List Env) (s:Shared) (H:Hp) (E:XK),Room k (A.deeper (envOfC qual (zC st) s.heap.objs.size f cdv))->DSs K (fun _ _=>False) (cxOf CX0 P w K mg base N qual (zC st) f cdv A outer s H E).nox (yb st) m) :
  FnOk P w K mg base CX0 (k+1) f fd ps (spD K EW0 F'):=by
 subst hn ha hF;exact zCT F S h
end
section
variable{K:W.Frag}{Er:Str->Hp->Prop}{X:Cx}{e a b c tg it elt:Expr}{es rest:List Expr}{m ma mb mz:Env'->Mx D}{mc mt:Env'->Mx Bool}{ms:Env'->Mx (List D)}{mi:Env'->Mx (List PyData)}{mf:Env'->Mx PyData}{pos p2:Pos}{st:Stmt}{sts tts:List Stmt}{sa sb:Env'->Mx Out}
variable{g:Gh}{ow:Ix->Option Addr}{ρ:Env'}{n n':Wd}{σ:St}{H H' H1:Hp}
noncomputable def bool?:PyData->Option Bool
 | .bool b=>some b
 | _=>none
theorem bool?_eq{x:PyData}{k:Bool}(h:bool? x=some k):x=.bool k:=by
 cases x<;>simp only[bool?]at h<;>cases h;rfl
noncomputable def z23(f f':PyData->PyData->Option PyData)(a b c:Env'->Mx D):Env'->Mx D:=fun ρ=>a ρ >>= fun x=>b ρ >>= fun y=>Mx.opt ((onP2 f x y).bind bool?) >>= fun k=>if k=true then(c ρ >>= fun z=>Mx.opt ((onP2 f' y z).map D.p))else pure (.p (.bool false))
theorem z48{f f':PyData->PyData->Option PyData}{Q:VK}(h:rdG RE K Er (z23 f f' ma mb mz) σ H Q):z8e (rD2 f) (rD2 f') (rdG RW K Er ma) (rdG RW K Er mb) (rdG RW K Er mz) σ H Q:=by
 refine rd1 h (fun _ _ _ _ _ _ _ _ _ _ r=>r) fun g ow ρ n x v H0 H1 fr _ r q=>?_;refine⟨g,ow,ρ,n,fr,AftG.bind q fun y n2 u H2 k2 t2 r2 c2=>?_⟩;have fr2:=fr.kp k2 t2;obtain⟨k,e,q2⟩:=yn (c2 (R3:=RE g (g.S ow)) fun _ _ _ z=>z);obtain⟨z,e1,e2⟩:=Option.bind_eq_some_iff.mp e;obtain⟨x',y',rfl,rfl,e3⟩:=yX e1;cases bool?_eq e2;have rx:=Rep1.kp k2 Gh.us r;refine⟨g.S ow,x',y',_,fr2.dom,Dat1.weak (Rep1.d1 rx),Dat1.weak (Rep1.d1 r2),e3,fun v3 H3 s3 d3=>⟨k,by simpa only[DatS]using d3,?_⟩⟩;have fr3:=fr2.kp (s3.kp) (s3.twn t2);cases k with
 | false=>exact ite_ff (q2 _ _ s3.kp (s3.twn t2) rb)
 | true=>
  have q3:AftG (RE g (g.S ow)) g Er H2 ((mz ρ >>= fun z=>Mx.opt ((onP2 f' (.p y') z).map D.p)) n2) Q:=q2;have q3:AftG (RE g (g.S ow)) g Er H3 ((mz ρ >>= fun z=>Mx.opt ((onP2 f' (.p y') z).map D.p)) n2) Q:=by
   generalize((mz ρ >>= fun z=>Mx.opt ((onP2 f' (.p y') z).map D.p)) n2)=o at q3;cases o with
   | ok d n4=>exact fun v4 H4 k4 t4 r4=>q3 v4 H4 (s3.kp.trans k4) t4 r4
   | err c n4=>exact q3
   | bad=>exact q3
  refine ite_tt ⟨g,ow,ρ,n2,fr3,AftG.bind q3 fun z n4 w H4 k4 t4 r4 c4=>?_⟩;obtain⟨r',e5,q5⟩:=yk t4 (c4 (R3:=RE g (g.S ow)) fun _ _ _ z=>z);obtain⟨y2,z',ey,rfl,e6⟩:=yX e5;cases ey;exact⟨g.S ow,y',z',r',(fr3.kp k4 t4).dom,Dat1.weak (Rep1.d1 (Rep1.kp k4 Gh.us (Rep1.kp s3.kp Gh.us r2))),Dat1.weak (Rep1.d1 r4),e6,q5⟩
theorem z3A{op op':CmpOp}{f f':PyData->PyData->Option PyData}(ho:OpR X (compareOp op) (rD2 f))(ho':OpR X (compareOp op') (rD2 f'))(ha:DW K Er X a ma)(hb:DW K Er X b mb)(hc:DW K Er X c mz)
  (hm:lastMarks [op,op'] [b,c]=false:=by with_unfolding_all rfl):DE K Er X (.Compare a [op,op'] [b,c] pos) (z23 f f' ma mb mz):=(z72 ho ho' ha hb hc hm).imp fun σ H Q h=>z48 h
noncomputable def fIsi:String->PyData->Option PyData
 | _,.dict _=>none
 | "bool",.bool _=>some (.bool true)
 | "bool",_=>some (.bool false)
 | "int",.bool _=>some (.bool true)
 | "int",.int _=>some (.bool true)
 | "int",_=>some (.bool false)
 | "tuple",.tuple _=>some (.bool true)
 | "tuple",_=>some (.bool false)
 | "list",.list _=>some (.bool true)
 | "list",_=>some (.bool false)
 | "str",.str _=>some (.bool true)
 | "str",_=>some (.bool false)
 | "dict",_=>some (.bool false)
 | _,_=>none
noncomputable def tyN:PyData->String
 | .none=>"NoneType"
 | .bool _=>"bool"
 | .int _=>"int"
 | .str _=>"str"
 | .list _=>"list"
 | .tuple _=>"tuple"
 | .dict _=>"dict"
noncomputable def zA0:PyData->Bool
 | .dict _=>false
 | _=>true
theorem zCl{T S:Addr->Prop}{d:PyData}{v:V}(hd:zA0 d=true)(h:Dat1 T S H d v):TyOf K H v (.type (tyN d)):=by
 cases d with
 | none=>cases z6M h;exact .non
 | bool b=>cases z7d h;exact .bl _
 | int i=>cases y0 h;exact .int _
 | str x=>cases z1f h;exact .str _
 | list ds=>obtain⟨a,xs,rfl,h1,_⟩:=ym h;exact .lst h1
 | tuple ds=>obtain⟨a,xs,rfl,h1,_⟩:=yj h;exact .tup h1
 | dict ds=>
  obtain⟨a,xs,rfl,h1,_⟩:=z0J h;exact(nomatch hd)
def IsiT(K:W.Frag)(T:String):Prop:=∀d:PyData,(zA0 d=false/\fIsi T d=none)\/∃b,zA0 d=true/\fIsi T d=some (.bool b)/\W.kitOne K (.type (tyN d)) (.type T)=some b
theorem z3g:IsiT K "bool":=fun d=>by cases d<;>first | exact .inl ⟨rfl,rfl⟩ | exact .inr ⟨_,rfl,rfl,rfl⟩
theorem zAG:IsiT K "int":=fun d=>by cases d<;>first | exact .inl ⟨rfl,rfl⟩ | exact .inr ⟨_,rfl,rfl,rfl⟩
theorem wR:IsiT K "tuple":=fun d=>by cases d<;>first | exact .inl ⟨rfl,rfl⟩ | exact .inr ⟨_,rfl,rfl,rfl⟩
theorem z7K:IsiT K "list":=fun d=>by cases d<;>first | exact .inl ⟨rfl,rfl⟩ | exact .inr ⟨_,rfl,rfl,rfl⟩
theorem u8{T:String}(hT:IsiT X.K T)(h:PE X e (tCB (fun xs H Q=>∃(x:V) (t:Value) (T:String) (b:Bool),xs=[x,.ty T]/\TyOf X.K H x t/\W.kitOne X.K t (.type T)=some b/\Q (.bl b) H) (z0B (rdG RW K Er m) (z0B (tC (.ty T)) tNil)))):DE K Er X e (mUn (fIsi T) m):=h.imp fun σ H Q h=>rd1 h (fun _ _ _ _ _ _ _ _ _ _ r=>r) fun g ow ρ n d v H0 H2 fr _ r q=>by
 obtain⟨z,e,q2⟩:=yk fr.twn q;obtain⟨x,rfl,e1⟩:=zf e;rcases hT x with ⟨_,e2⟩ | ⟨b,hd,e2,e3⟩
 ·rw[e2]at e1;cases e1
 rw[e2]at e1;cases e1;exact⟨v,_,T,b,rfl,zCl hd (Rep1.d1 r),e3,q2 _ _ (Same.refl _) db⟩
end
section
variable{K:W.Frag}{Er:Str->Hp->Prop}{X:Cx}{e:Expr}{m:Env'->Mx D}{pos:Pos}
variable{g:Gh}{ow:Ix->Option Addr}{ρ:Env'}{n n':Wd}{σ:St}{H H' H1:Hp}
noncomputable def uu:Option (Option Sl)->Bool
 | some (some (Sl.val .town))=>true
 | _=>false
theorem z6e{o:Option (Option Sl)}(h:uu o=true):o=some (some (Sl.val .town)):=by
 unfold uu at h;split at h
 ·rfl
 ·cases h
theorem Frm.town{i:Nat}(f:Frm K g ow ρ n σ H)(h:uu ρ[i]?=true):∃a,g.aT.t=some a/\σ[i]?=some (some (.ref a))/\H a=some (.lst (List.replicate n.n (.int 0))):=by
 obtain⟨v,e1,a,e2,e3⟩:=f.val i .town (z6e h);subst e3;exact⟨a,e2,e1,f.twn.town a e2⟩
noncomputable def z6S(i:Nat):Env'->Mx Out:=fun ρ n=>if uu ρ[i]?=true/\n.n<lim then .ok (.nx ρ) n.up else .bad
theorem zA8{i:Nat}(h:PE X e (tBM X.K "list" z2q (tVar i) (z0B (tC (.int 0)) tNil)))(hs:swapsWith e none pos.line X.env=pure false:=by rfl):DS K Er X (.Expr e pos) (z6S i):=(z13 h hs).imp fun σ H E h=>by
 obtain⟨g,ow,ρ,n,f,q⟩:=h;unfold z6S at q;split at q
 next c=>
  obtain⟨a,e1,e2,e3⟩:=f.town c.1;refine⟨.ref a,e2,.inl ⟨rfl,_,SqL.of e3⟩,a,_,.int 0,rfl,rfl,e3,Nat.lt_of_lt_of_le (by rw[List.length_replicate];exact c.2) (yt (Nat.le_refl _)),?_⟩;have k:Kp g.T H (upd H a (.lst (List.replicate n.n (.int 0)++[.int 0]))):=fun b o hb z=>by
   by_cases eb:b=a
   ·subst eb;rcases z with z | ⟨xs,rfl⟩
    ·exact absurd (.inl e1) z
    ·rw[e3]at hb;cases hb
   ·rw[zI eb];exact hb
  have t:Twn g (upd H a (.lst (List.replicate n.n (.int 0)++[.int 0]))) n.up:=⟨fun b eb=>by
   rw[e1]at eb;cases eb;rw[zG,<-List.replicate_succ'];rfl,fun k o ek=>by
   obtain⟨d,e5,q5⟩:=f.twn.obs k o ek;exact⟨d,e5,q5.keep (fun b xs eb=>by rw[zI (show b≠a from fun z=>by rw[z,e3]at eb;cases eb)];exact eb) fun b hb=>zI (show b≠a from fun z=>f.scr.2.tw k o b ek hb (by rw[z];exact e1))⟩⟩
  exact q ow σ _ (f.kp k t) (Stp.of k)
 next=>exact q.elim
noncomputable def z5F(i:Nat):Env'->Mx D:=fun ρ n=>if uu ρ[i]?=true then .ok (.p (.int n.n)) n else .bad
theorem zAL{i:Nat}(h:PE X e (tCB (fun xs H Q=>∃p ys,xs=[.ref p]/\(SqL X.K H p ys\/SqT X.K H p ys)/\Q (.int ys.length) H) (z0B (tVar i) tNil))):DE K Er X e (z5F i):=h.imp fun σ H Q ⟨g,ow,ρ,n,f,q⟩=>by
 unfold z5F at q;split at q
 next c=>
  obtain⟨a,e1,e2,e3⟩:=f.town c;exact⟨.ref a,e2,a,_,rfl,.inl (SqL.of e3),q _ _ (Kp.refl _ _) f.twn (by rw[List.length_replicate];exact(di:DatS (g.S ow) H (.int n.n) (.int n.n)))⟩
 next=>exact q.elim
end
theorem z6s{prog:Program}{w:World}{A:Around}{E:Value->Shared->Prop}{s:Shared}{env:Env}{k v:Expr}{pos:Pos}{Q:Value->Shared->Prop}
  (h:wpAny (model prog w) A (evalPairs (pairTrees [some k] [v] env pos)) (fun vs s₁=>∃ku vu,vs=[(ku,vu)]/\wpAny (model prog w) A (dictSet s.heap.objs.size ku vu) (fun _ s₂=>Q (.ref s.heap.objs.size) s₂) E s₁) E
   { s with heap:=s.heap.push { cls:=.type "dict",data:=.dict #[] } }):wpAny (model prog w) A (eval (.Dict [some k] [v] pos) env) Q E s:=by
 rw[arm_eval_Dict,zip_pairTrees [some k] [v] env pos rfl rfl,dictDisplay_pairs _ (by simp[pairTrees]) (by simp[pairTrees])];refine wpAny_bind (wpAny_standAt (wpAny_bind ?_));unfold subDict;refine wpAny_bind (wpAny_alloc ?_);refine wpAny_bind (wpAny_holding ?_);rw[if_pos (by simp[pairTrees])];refine wpAny_bind (wpAny_mono h (fun vs s₁ h₁=>?_) fun _ _ e=>e);obtain⟨ku,vu,rfl,h₁⟩:=h₁;refine wpAny_holding ?_;rw[List.forIn_cons];refine wpAny_bind (wpAny_bind (wpAny_bind (wpAny_mono h₁ (fun _ s₂ h₂=>wpAny_pure ?_) fun _ _ e=>e)));dsimp only;rw[List.forIn_nil];exact wpAny_pure (wpAny_pure (wpAny_pure (wpAny_pure h₂)))
section
variable{X:Cx}{pins:List (Addr×Obj)}{σ:St}{H:Hp}{s:Shared}{a:Addr}{y v:V}{u r:Value}{A:Around}{E:Value->Shared->Prop}
theorem Inv.relT(I:Inv X pins σ H s)(h:H a=some (.dK [])):Inv X pins σ (upd H a (.dT [])) s:=by
 obtain⟨z,hd,vs,rel,dd⟩:=z71 I.hok h;cases rel;obtain⟨o,es,ep,h1,h2,h3,h4,h5,h6⟩:=dd;have e:es.toList=[]:=by
  cases q:es.toList with
  | nil=>rfl
  | cons x r=>rw[q]at h5;exact nomatch h5
 exact I.write (x:=a) (e:=a) (t':=s.toks) (h':=s.heap) (by rw[h];exact True.intro) (.inl rfl) (fun b u _ q=>q) ⟨o,h1⟩ ⟨Nat.zero_le _,hd,[],.nil,o,es,ep,h1,h2,h3,e,List.nodup_nil⟩
noncomputable def tD1(tk tv:TE):TE:=fun σ H Q=>∀p,H p=none->tk σ (upd H p (.dK [])) fun x H1=>tv σ H1 fun y H2=>H2 p=some (.dK [])/\
 ((∃k,x=kV k/\Q (.ref p) (upd H2 p (.dK [(k,y)])))\/∃k b,x=.ref b/\H2 b=some (.tup (k.map kV))/\Q (.ref p) (upd H2 p (.dT [(k,y)])))
theorem zCh{k v:Expr}{tk tv:TE}{pos:Pos}(hu:X.A.units+1<cLine)(hk:PE X k tk)(hv:PE X v tv):PE X (.Dict [some k] [v] pos) (tD1 tk tv):=by
 intro pins s σ H Q I q;have hn:=I.hok.fresh (Nat.le_refl s.heap.objs.size);have I1:=I.laid (a:=s.heap.objs.size) (o:=.dK []) (h':=s.heap.push { cls:=.type "dict",data:=.dict #[] }) (t':=s.toks) (fun _ _ q=>Heap.get?_push_of_some _ q) (Nat.le_refl _) (z3b s.heap I.big);refine z6s (pairTrees_cons_walk (thn (hk pins _ σ _ _ I1 (q _ hn)) fun ku s1 ⟨x,H1,I2,rx,q1⟩=>thn (hv pins s1 σ H1 _ I2 q1) fun vu s2 ⟨y,H2,I3,ry,e,q2⟩=>pairTrees_nil_walk ⟨ku,vu,rfl,?_⟩));rcases q2 with ⟨k,rfl,q2⟩ | ⟨k,b,rfl,hb,q2⟩
 ·obtain⟨z,hd,vs,rel,dd⟩:=z71 I3.hok e;cases rel;refine wpAny_dictSet_pairs (hsz:=Nat.zero_le _) (z2v rx) dd fun h' dd' hs=>⟨.ref s.heap.objs.size,_,?_,rfl,q2⟩;have he:∃q,h'.get? s.heap.objs.size=some q:=let⟨q,_,_,hq,_⟩:=dd';⟨q,hq⟩
  exact wJ I3 (by rw[e];exact True.intro) hs he (z5J (by show 1<=sizeLine;rw[sizeLine_eq];decide) hd (KV.put (kvs:=[]) .nil k ry) dd')
 ·cases(show ku=Value.ref b from rx);have I4:=I3.relT e;have hbp:b≠s.heap.objs.size:=z5A hb e (fun z=>nomatch z);obtain⟨z,hd,xs,rel,dd⟩:=z70 I4.hok (a:=s.heap.objs.size) (kvs:=[]) zG;cases rel;refine wpAny_dictSet_heap (hsz:=Nat.zero_le _) (show X.A.units<cLine by omega) (wA I4.hok (by rw[zI hbp];exact hb)) dd fun h' dd' hs=>⟨.ref s.heap.objs.size,_,?_,rfl,q2⟩;obtain⟨q,es,ep,hq,h2,h3,h4,_,h5⟩:=dd'
  have:=wJ (ob:=.dT [(k,y)]) (t':=s2.toks+(tupleKind (zT X.prog X.w)).draws k) I4 (by rw[zG];exact True.intro) hs ⟨q,hq⟩ ⟨by show 1<=sizeLine;rw[sizeLine_eq];decide,hd,_,.cons ⟨rfl,by rw[zI hbp,zI hbp];exact hb,ry⟩ .nil,q,es,ep,hq,h2,h3,h4,h5⟩;rw[wu]at this;exact this
end
section
variable{X:Cx}{pins:List (Addr×Obj)}{σ:St}{H:Hp}{s:Shared}{a:Addr}{y v:V}{u r:Value}{A:Around}{E:Value->Shared->Prop}
theorem Inv.relK(I:Inv X pins σ H s)(h:H a=some (.dT [])):Inv X pins σ (upd H a (.dK [])) s:=by
 obtain⟨z,hd,xs,rel,o,es,ep,h1,h2,h3,h4,h5⟩:=(show ObjOk X.prog X.w H s.heap a (.dT []) from I.hok a _ h);cases rel;have e:es=#[]:=by
  have:es.toList=[]:=h4;cases es;simp at this;subst this;rfl
 subst e;exact I.write (x:=a) (e:=a) (t':=s.toks) (h':=s.heap) (by rw[h];exact True.intro) (.inl rfl) (fun b u _ q=>q) ⟨o,h1⟩ ⟨Nat.zero_le _,hd,[],.nil,o,#[],ep,h1,h2,h3,fun x hx=>by simp at hx,.nil,List.nodup_nil⟩
def DPutR(H:Hp)(a:Addr)(y v:V)(H':Hp):Prop:=DPut H a y v H'\/(∃k b,H a=some (.dK [])/\y=.ref b/\H b=some (.tup (k.map kV))/\H'=upd H a (.dT [(k,v)]))\/∃k,H a=some (.dT [])/\y=kV k/\H'=upd H a (.dK [(k,v)])
theorem z4b{H':Hp}{Q:Unit->Shared->Prop}(hu:A.units+1<cLine)(I:Inv X pins σ H s)(g:DPutR H a y v H')(ry:RelV y u)(rv:RelV v r)(h:∀s',Inv X pins σ H' s'->Q () s'):wpAny (model X.prog X.w) A (setItem (.ref a) u r) Q E s:=by
 rcases g with g | ⟨k,b,e,rfl,hb,rfl⟩ | ⟨k,e,rfl,rfl⟩
 ·exact ua hu I g ry rv h
 ·have hba:b≠a:=z5A hb e (fun z=>nomatch z);refine ua hu (I.relT e) (DPut.t (kvs:=[]) zG (by rw[zI hba];exact hb) (by show 0<sizeLine;rw[sizeLine_eq];decide)) ry rv fun s' I'=>h s' ?_;rw[wu]at I';exact I'
 ·refine ua hu (I.relK e) (DPut.k (kvs:=[]) zG (by show 0<sizeLine;rw[sizeLine_eq];decide)) ry rv fun s' I'=>h s' ?_;rw[wu]at I';exact I'
noncomputable def zBw(td ty tv:TE):TS:=fun D σ H=>tv σ H fun v H1=>td σ H1 fun x H2=>ty σ H2 fun y H3=>∃a H4,x=.ref a/\DPutR H3 a y v H4/\D.nx σ H4
theorem z7q{o i value:Expr}{pos pos':Pos}{td ty tv:TE}(hu:X.A.units+1<cLine)(ho:PE X o td)(hi:PE X i ty)(hv:PE X value tv)(hs:swapsWith value (some (.Subscript o i pos')) pos.line X.env=pure false):
  PS X (.Assign [.Subscript o i pos'] value pos) (zBw td ty tv):=by
 intro pins s σ H D I h;refine wpAny_Assign_Subscript (thn (hv pins s σ H _ I h) fun r s1 ⟨v,H1,I1,rv,q1⟩=>thn (ho pins s1 σ H1 _ I1 q1) fun u s2 ⟨x,H2,I2,rx,q2⟩=>thn (hi pins s2 σ H2 _ I2 q2) fun iv s3 ⟨y,H3,I3,ry,a,H4,ex,g,q3⟩=>?_) hs;subst ex;obtain rfl:u=Value.ref a:=rx;exact z4b hu I3 g ry rv fun s4 I4=>⟨σ,H4,I4,q3⟩
end
noncomputable def yE(kvs:List (PyData×PyData)):PyData->Bool
 | .tuple ds=>(z1S ds).isSome && kvs.all (fun kv=>xz kv.1)
 | x=>(keyD x).isSome && kvs.all (fun kv=>!xz kv.1)
noncomputable def dPut(kvs:List (PyData×PyData))(k v:PyData):List (PyData×PyData):=
 if (kvs.any fun kv=>PyData.eqv kv.1 k)=true then kvs.map (fun kv=>if PyData.eqv kv.1 k=true then(kv.1,v)else kv)else kvs++[(k,v)]
theorem DctS.append{S:Addr->Prop}{H:Hp}:∀{ds es:List (PyData×PyData)} {xs ys:List (PyData×V)},DctS S H ds xs->DctS S H es ys->DctS S H (ds++es) (xs++ys)
 | [],_,_,_,h,k=>by simp only[DctS]at h;subst h;exact k
 | (_,_)::_,_,_,_,h,k=>by
  simp only[DctS]at h;obtain⟨x,r,rfl,h1,h2⟩:=h;show DctS S H ((_,_)::(_++_)) _;simp only[DctS];exact⟨x,_,rfl,h1,DctS.append h2 k⟩
theorem DctS.one{S:Addr->Prop}{H:Hp}{k d:PyData}{v:V}(h:DatS S H d v):DctS S H [(k,d)] [(k,v)]:=by
 simp only[DctS];exact⟨v,[],rfl,h,rfl⟩
theorem DctS.put{S:Addr->Prop}{H:Hp}{κ:Type}[DecidableEq κ]{j:κ->PyData}(hj:∀a b,PyData.eqv (j a) (j b)=decide (a=b)){k:κ}{d:PyData}{v:V}(hd:DatS S H d v){kvs:List (PyData×PyData)}{l:List (κ×V)}
  (h:DctS S H kvs (l.map fun kv=>(j kv.1,kv.2))):DctS S H (dPut kvs (j k) d) ((putK l k v).map fun kv=>(j kv.1,kv.2)):=by
 have any:∀{kvs:List (PyData×PyData)} {l:List (κ×V)},DctS S H kvs (l.map fun kv=>(j kv.1,kv.2))->(kvs.any fun kv=>PyData.eqv kv.1 (j k))=(l.any fun kv=>decide (kv.1=k)):=by
  intro kvs
  induction kvs with
  | nil=>intro l h;cases l with
   | nil=>rfl
   | cons _ _=>simp[DctS]at h
  | cons p r ih=>
   intro l h;obtain⟨c,x⟩:=p;cases l with
   | nil=>simp[DctS]at h
   | cons q s=>
    simp only[DctS,List.map_cons]at h;obtain⟨y,t,e,h1,h2⟩:=h;cases e;rw[List.any_cons,List.any_cons,ih h2,hj]
 have mp:∀{kvs:List (PyData×PyData)} {l:List (κ×V)},DctS S H kvs (l.map fun kv=>(j kv.1,kv.2))->DctS S H (kvs.map fun kv=>if PyData.eqv kv.1 (j k)=true then(kv.1,d)else kv) ((l.map fun kv=>if kv.1=k then(kv.1,v)else kv).map fun kv=>(j kv.1,kv.2)):=by
  intro kvs
  induction kvs with
  | nil=>intro l h;cases l with
   | nil=>exact h
   | cons _ _=>simp[DctS]at h
  | cons p r ih=>
   intro l h;obtain⟨c,x⟩:=p;cases l with
   | nil=>simp[DctS]at h
   | cons q s=>
    obtain⟨q1,q2⟩:=q;simp only[DctS,List.map_cons]at h;obtain⟨y,t,e,h1,h2⟩:=h;cases e;rw[List.map_cons,List.map_cons,List.map_cons];have e2:=hj q1 k;by_cases hk:q1=k
    ·rw[if_pos hk,if_pos (by rw[e2];exact decide_eq_true hk)];simp only[DctS];exact⟨v,_,rfl,hd,ih h2⟩
    ·rw[if_neg hk,if_neg (by rw[e2,decide_eq_false hk];exact Bool.false_ne_true)];simp only[DctS];exact⟨q2,_,rfl,h1,ih h2⟩
 unfold dPut putK;rw[any h];split
 ·exact mp h
 ·rw[List.map_append];exact h.append (DctS.one hd)
theorem z5j{S:Addr->Prop}{H:Hp}{a:Addr}{ks:List (PyData×V)}{kvs:List (PyData×PyData)}{x d:PyData}{y v:V}(hSa:S a)(hpl:Pl H a)(h1:DctAt H a ks)(h2:DctS S H kvs ks)(hx:DatS S H x y)(hd:DatS S H d v)(ok:yE kvs x=true)(hl:kvs.length<lim):
  ∃o ks',DPutR H a y v (upd H a o)/\DctAt (upd H a o) a ks'/\DctS S H (dPut kvs x d) ks'/\∀ob u,o≠.frz ob u:=by
 have hlen:∀{kvs:List (PyData×PyData)} {ks:List (PyData×V)},DctS S H kvs ks->kvs.length=ks.length:=by
  intro kvs
  induction kvs with
  | nil=>intro ks h;simp only[DctS]at h;subst h;rfl
  | cons p r ih=>
   intro ks h;obtain⟨c,x⟩:=p;simp only[DctS]at h;obtain⟨y,t,rfl,h1,h2⟩:=h;simp[ih h2]
 have small:∀{n:Nat},n=kvs.length->n<sizeLine:=fun e=>Nat.lt_of_lt_of_le (by rw[e];exact hl) (yt (Nat.le_refl _));have hk:=hlen h2;have tk:∀{P:PyData->Bool} (hP:kvs.all (fun kv=>P kv.1)=true) {κ:Type} {j:κ->PyData} {l:List (κ×V)},ks=l.map (fun kv=>(j kv.1,kv.2))->l=[]\/∃c,P (j c)=true:=fun{P} hP {κ j l} e=>by
  subst e;cases l with
  | nil=>exact .inl rfl
  | cons q s=>
   cases kvs with
   | nil=>simp[DctS]at h2
   | cons p r=>
    obtain⟨p1,p2⟩:=p;simp only[DctS,List.map_cons]at h2;obtain⟨_,_,e,_⟩:=h2;cases e;rw[List.all_cons,Bool.and_eq_true]at hP;exact .inr ⟨q.1,hP.1⟩
 have plain:∀k:Key,x=kD k->kvs.all (fun kv=>!xz kv.1)=true->∃o ks',DPutR H a y v (upd H a o)/\DctAt (upd H a o) a ks'/\DctS S H (dPut kvs x d) ks'/\∀ob u,o≠.frz ob u:=fun k e hA=>by
  have ey:y=kV k:=by rw[e]at hx;exact z2D hx
  rcases h1 with ⟨l,g,rfl⟩ | ⟨l,g,e2⟩
  ·refine⟨.dK (putK l k v),_,.inl (by rw[ey];exact DPut.k (hpl.rd g) (small (by rw[hk,List.length_map]))),.inl ⟨_,.inl zG,rfl⟩,?_,fun _ _ z=>by cases z⟩;rw[e];exact DctS.put z6p hd h2
  ·rcases tk (P:=fun d=>!xz d) hA e2 with rfl | ⟨c,hc⟩
   ·rw[e2]at h2;have ekv:kvs=[]:=by
     cases kvs with
     | nil=>rfl
     | cons p r=>obtain⟨_,_⟩:=p;simp[DctS]at h2
    subst ekv;exact⟨.dK [(k,v)],_,.inr (.inr ⟨k,hpl.rd g,ey,rfl⟩),.inl ⟨_,.inl zG,rfl⟩,by rw[e];exact DctS.one hd,fun _ _ z=>by cases z⟩
   ·simp[kT,xz]at hc
 cases x with
 | tuple ds=>
  simp only[yE,Bool.and_eq_true]at ok;obtain⟨o1,o2⟩:=ok;obtain⟨k,ek⟩:=Option.isSome_iff_exists.mp o1;have ed:=uK ek;simp only[DatS]at hx;obtain⟨b,xs,rfl,hb,hxs⟩:=hx;rw[ed]at hxs;rw[z11 hxs]at hb;rcases h1 with ⟨l,g,e2⟩ | ⟨l,g,rfl⟩
  ·rcases tk (P:=xz) o2 e2 with rfl | ⟨c,hc⟩
   ·rw[e2]at h2;have ekv:kvs=[]:=by
     cases kvs with
     | nil=>rfl
     | cons p r=>obtain⟨_,_⟩:=p;simp[DctS]at h2
    subst ekv;exact⟨.dT [(k,v)],_,.inr (.inl ⟨k,b,hpl.rd g,rfl,hb,rfl⟩),.inr ⟨_,.inl zG,rfl⟩,by rw[ed];exact DctS.one hd,fun _ _ z=>by cases z⟩
   ·cases c<;>simp[kD,xz]at hc
  ·refine⟨.dT (putK l k v),_,.inl (DPut.t (hpl.rd g) hb (small (by rw[hk,List.length_map]))),.inr ⟨_,.inl zG,rfl⟩,?_,fun _ _ z=>by cases z⟩;rw[ed];exact DctS.put z8V hd h2
 | int i=>
  simp only[yE,Bool.and_eq_true]at ok;exact plain (.inl i) rfl ok.2
 | str i=>
  simp only[yE,Bool.and_eq_true]at ok;exact plain (.inr i) rfl ok.2
 | none=>simp[yE,keyD]at ok
 | bool _=>simp[yE,keyD]at ok
 | list _=>simp[yE,keyD]at ok
 | dict _=>simp[yE,keyD]at ok
noncomputable def putD(kvs:List (PyData×PyData))(k v:PyData):Option (List (PyData×PyData)):=if yE kvs k=true/\kvs.length<lim then some (dPut kvs k v)else none
section
variable{K:W.Frag}{Er:Str->Hp->Prop}{X:Cx}{e k v o:Expr}{mk mv:Env'->Mx D}{pos:Pos}
variable{g:Gh}{ow:Ix->Option Addr}{ρ:Env'}{n n':Wd}{σ:St}{H H' H1:Hp}
noncomputable def z0Q(i:Nat)(mk mv:Env'->Mx D):Env'->Mx Out:=fun ρ=>mv ρ >>= fun v=>Mx.opt (ownD ρ i) >>= fun kvs=>mk ρ >>= fun k=>Mx.opt ((onP2 (putD kvs) k v).map fun z=>Out.nx (ρ.set i (some (Sl.own (.dict z)))))
theorem z6Z{i:Nat}{pos':Pos}(hu:X.A.units+1<cLine)(ho:PE X o (tVar i))(hk:DE K Er X k mk)(hv:DE K Er X v mv)(hs:swapsWith v (some (.Subscript o k pos')) pos.line X.env=pure false):
  DS K Er X (.Assign [.Subscript o k pos'] v pos) (z0Q i mk mv):=(z7q hu ho hk hv hs).imp fun σ H E h=>rs1 h fun g ow ρ n n1 d v H1 f k f1 r q=>by
 obtain⟨kvs,ek,q⟩:=z0T q;obtain⟨a,e1,e2,dd⟩:=f1.own i _ (ui ek);refine⟨.ref a,e2,g,ow,ρ,n1,f1,wn f1 q fun n2 x y H2 k2 f2 r2 q2=>?_⟩;obtain⟨out,eo,q3⟩:=rs_o q2;obtain⟨z,ez,eo2⟩:=Option.map_eq_some_iff.mp eo;subst eo2;obtain⟨x',d',rfl,rfl,e3⟩:=yX ez;unfold putD at e3;split at e3
 next c=>
  cases e3;obtain⟨a',g1,g2,g3⟩:=f2.own i _ (ui ek);rw[e1]at g1;cases g1;obtain⟨b,ks,eb,h1,h2⟩:=z0J g3;cases eb;have rd:DatS (g.S ow) H2 d' v:=Rep.kp (g:=g) (d:=.p d') (k2.mono Gh.ts) (fun _ z=>.inl z) r;obtain⟨ob,ks',p1,p2,p3,p4⟩:=z5j (S:=g.S ow) (.inr (.inr ⟨(i,0),e1⟩)) (f2.owi _ a e1).2.1 h1 h2 r2 rd c.1 c.2;have nt:=h1.not_tup;have kS:=f2.kpOwn (o:=ob) e1 nt;refine⟨a,_,rfl,p1,q3 _ _ _ (f2.updOwn (ui ek) e1 nt ?_ p4) (Stp.upd f2 e1 nt)⟩;simp only[Dat1];exact⟨a,ks',rfl,id,p2,DctS.kp kS (fun _ z=>.inl z) p3⟩
 next=>cases e3
noncomputable def Gh.add(g:Gh)(p:Addr)(o:HO):Gh:=⟨g.aS,g.ns,g.aT,fun b=>g.S0 b\/b=p,upd g.H0 p o⟩
theorem Frm.protect{p:Addr}{o:HO}(f:Frm K g ow ρ n σ H)(hp:H p=none):Frm K (g.add p o) ow ρ n σ (upd H p o):=by
 have h0:=f.h0 hp;have s:=Same.new (o:=o) hp;have hS:∀a,(g.add p o).S ow a->g.S ow a\/H a=none:=fun a z=>by
  rcases z with (z | z) | z | z
  ·exact .inl (.inl z)
  ·exact .inr (by rw[z];exact hp)
  ·exact .inl (.inr (.inl z))
  ·exact .inl (.inr (.inr z))
 have s0:Same g.H0 (upd g.H0 p o):=Same.new h0;refine⟨⟨?_,f.scr.2⟩,s.twn f.twn,fun a z=>?_,fun b u h k=>?_,fun i d e=>?_,fun i x e=>?_,fun i kl e=>?_,fun i a e=>?_,f.inj,f.len⟩
 ·rcases f.scr.1 with h | ⟨h1,h2⟩
  ·exact .inl h
  ·exact .inr ⟨h1,s0.seq h2⟩
 ·show upd g.H0 p o a≠none;rcases z with z | z
  ·cases q:g.H0 a with
   | none=>exact absurd q (f.sub a z)
   | some u=>rw[s0 _ _ q];intro z;cases z
  ·rw[z,zG];intro z;cases z
 ·have h:upd g.H0 p o b=some u:=h;by_cases e:b=p
  ·subst e;rw[zG]at h |-;exact h
  ·rw[zI e]at h |-;exact f.ext b u h k
 ·obtain⟨v,e1,r⟩:=f.val i d e;exact⟨v,e1,(r.kp (Kp.of s) hS).shift rfl rfl fun _ z=>z⟩
 ·obtain⟨a,e0,e1,r⟩:=f.own i x e;refine⟨a,e0,e1,r.move (Kp.of s) hS fun b eb hb hU=>⟨fun o z=>s _ _ z,fun z=>?_⟩⟩;rcases z with (z | z) | z
  ·exact hU (.inl z)
  ·exact hb (by rw[z];exact hp)
  ·exact hU (.inr z)
 ·obtain⟨v,e1,r⟩:=f.dp i kl e;exact⟨v,e1,r.move (fun _ _ z=>z) (fun _ _ _ _ z=>s _ _ z) (Kp.of s) hS⟩
 ·obtain⟨h1,h2,h3,h4⟩:=f.owi i a e;have hap:a≠p:=fun z=>h2.some (by rw[z];exact hp);exact⟨by show upd g.H0 p o a=none;rw[zI hap];exact h1,(by obtain⟨o',e',n'⟩:=h2;exact⟨o',by rw[zI hap];exact e',n'⟩),h3,h4⟩
noncomputable def mD1(mk mv:Env'->Mx D):Env'->Mx PyData:=fun ρ=>mk ρ >>= fun k=>mv ρ >>= fun v=>Mx.opt (onP2 (fun k v=>if yE [] k=true then some (.dict [(k,v)])else none) k v)
theorem zB0(hu:X.A.units+64<cLine)(hk:DE K Er X k mk)(hv:DE K Er X v mv):DF K Er X (.Dict [some k] [v] pos) (mD1 mk mv):=(zCh (by omega) hk hv).imp fun σ H Q ⟨g,ow,ρ,n,f,q⟩ p hp=>by
 have f1:=f.protect (o:=.dK []) hp;have er:∀{c n'},(∀H',Kp g.T g.H0 H'->Twn g H' n'->Er c H')->∀H',Kp (g.add p (.dK [])).T (g.add p (.dK [])).H0 H'->Twn (g.add p (.dK [])) H' n'->Er c H':=fun h H' k t=>h H' ((Same.new (f.h0 hp)).kp.trans k) t;have hT:¬g.T p:=fun z=>f.twn.dom z hp;unfold mD1 at q;rw[Mx.bind_def]at q;refine⟨g.add p (.dK []),ow,ρ,n,f1,?_⟩;cases e1:mk ρ n with
 | err c n1=>rw[e1]at q;exact er q
 | bad=>rw[e1]at q;exact q
 | ok kd n1=>
  rw[e1]at q;intro kv H1 k1 t1 r1;have f2:=f1.kp k1 t1;have q:AftG (RF g (g.S ow)) g Er H ((mv ρ >>= fun v=>Mx.opt (onP2 (fun k v=>if yE [] k=true then some (.dict [(k,v)])else none) kd v)) n1) Q:=q;rw[Mx.bind_def]at q;refine⟨g.add p (.dK []),ow,ρ,n1,f2,?_⟩;cases e2:mv ρ n1 with
  | err c n2=>rw[e2]at q;exact er q
  | bad=>rw[e2]at q;exact q
  | ok vd n2=>
   rw[e2]at q;intro vv H2 k2 t2 r2;obtain⟨z,ez,q2⟩:=z0A (show AftG (RF g (g.S ow)) g Er H (Mx.opt (onP2 (fun k v=>if yE [] k=true then some (.dict [(k,v)])else none) kd vd) n2) Q from q);obtain⟨kx,vx,rfl,rfl,e3⟩:=yX ez;have hp2:H2 p=some (.dK []):=k2 _ _ (k1 _ _ zG (.inl hT)) (.inl hT);split at e3
   next c=>
    cases e3;refine⟨hp2,?_⟩;have rk:DatS ((g.add p (.dK [])).S ow) H2 kx kv:=Rep.kp (g:=g.add p (.dK [])) (d:=.p kx) (k2.mono Gh.ts) (fun _ z=>.inl z) r1;have hSp:(g.add p (.dK [])).S ow p:=.inl (.inr rfl);have fin:∀o ks',(∀ob u,o≠.frz ob u)->DctAt (upd H2 p o) p ks'->DctS ((g.add p (.dK [])).S ow) H2 [(kx,vx)] ks'->Q (.ref p) (upd H2 p o):=fun o ks' a0 a1 a2=>by
     have kS:Kp ((g.add p (.dK [])).S ow) H2 (upd H2 p o):=fun b u h z=>by
      by_cases e:b=p
      ·subst e;rcases z with z | ⟨xs,rfl⟩
       ·exact absurd hSp z
       ·rw[hp2]at h;cases h
      ·rw[zI e];exact h
     refine q2 (.ref p) _ (fun b u h z=>?_) (TwnT.updT t2 hT fun xs z=>by rw[hp2]at z;cases z) ⟨p,rfl,hp,Pl.upd a0,?_⟩
     ·have hb:=zb h hp;rw[zI hb];exact k2 _ _ (k1 _ _ (by rw[zI hb];exact h) z) z
     ·simp only[Dat1];refine⟨p,ks',rfl,id,a1,DctS.kp kS (fun b z=>?_) a2⟩;rcases z with (z | z | z) | z
      ·exact .inl (.inl (.inl z))
      ·exact .inl (.inr (.inl z))
      ·exact .inl (.inr (.inr z))
      ·exact .inl (.inl (.inr z))
    cases kx with
    | tuple ds=>
     simp only[yE,Bool.and_eq_true]at c;obtain⟨kk,ek⟩:=Option.isSome_iff_exists.mp c.1;have ed:=uK ek;obtain⟨b,xs,rfl,hb,hxs⟩:=yj (T:=N0) (DatS.one (fun _ z=>z.elim) rk);rw[ed]at hxs;rw[z11 hxs]at hb;exact .inr ⟨kk,b,rfl,hb,fin _ _ (fun _ _ z=>by cases z) (.inr ⟨_,.inl zG,rfl⟩) (by rw[ed];exact DctS.one r2)⟩
    | int i=>exact .inl ⟨.inl i,z2D (k:=.inl i) rk,fin _ _ (fun _ _ z=>by cases z) (.inl ⟨_,.inl zG,rfl⟩) (DctS.one r2)⟩
    | str i=>exact .inl ⟨.inr i,z2D (k:=.inr i) rk,fin _ _ (fun _ _ z=>by cases z) (.inl ⟨_,.inl zG,rfl⟩) (DctS.one r2)⟩
    | none=>simp[yE,keyD]at c
    | bool _=>simp[yE,keyD]at c
    | list _=>simp[yE,keyD]at c
    | dict _=>simp[yE,keyD]at c
   next=>cases e3
end
end L2
namespace PySem
open AutoSeq1 (wpAny_loadPart')
section
variable{prog:Program}{w:World}{A:Around}{E:Value->Shared->Prop}{s:Shared}
theorem z2U{Q:List Value->Shared->Prop}{r:Addr}{a b:Int}{t u v:Tok}{n:Nat}(hh:A.handled=none)(hr:IsRange s.heap r a b 1 t u v)(hsmall:Builtin.Range.small a b 1=true)(hn:Builtin.Range.rangeSize a b 1=n)(hlen:n<=2 ^ 24)
  (hQ:∀h' tk acc,(∀b o',s.heap.get? b=some o'->h'.get? b=some o')->ItemsOf (fun i v=>∃t,v=.int (a+i*1) t) acc n->Q acc.toList { s with heap:=h',toks:=tk }):wpAny (model prog w) A (collect (.ref r)) Q E s:=by
 unfold collect;refine wpAny_bind (wpAny_runValue (codeAny_builtin F.entry_proto_collect ?_));rw[Around.under_plainId F.plain_proto_collect _];show wpAny _ A.in1 (newList [] >>= fun l=>again (.builtin "list.__iadd__" ⟨[l,.ref r],[]⟩)) _ _ s;refine wpAny_bind (wpAny_newObj_type ?_);refine wpAny_pure ⟨plainId_quiet F.plain_list_iadd _,codeAny_builtin F.entry_list_iadd ?_⟩;rw[Around.under_plainId F.plain_list_iadd _];show wpAny _ A.in1 (Builtin.List.listExtendWith (.ref s.heap.objs.size) (.ref r) (.ref s.heap.objs.size)) _ _ _;have hS:(s.heap.push { cls:=.type "list",data:=.seq ([]:List Value).toArray }).get? s.heap.objs.size=some { cls:=.type "list",data:=.seq #[] 0 }:=Heap.get?_push_size _ rfl;have fin':∀h' tk acc' c',(∀b o,b≠s.heap.objs.size->(s.heap.push { cls:=.type "list",data:=.seq ([]:List Value).toArray }).get? b=some o->h'.get? b=some o)->h'.get? s.heap.objs.size=some { cls:=.type "list",dict:=none,data:=.seq acc' c',slots:=#[] }->
   ItemsOf (fun i v=>∃t,v=.int (a+i*1) t) acc' n->wpAny (model prog w) A (match Value.ref s.heap.objs.size with
   | Value.ref a=>do
    match (<-load a).data with
     | Data.seq xs _=>pure xs.toList
     | _=>unsupported "internal:collect"
   | _=>unsupported "internal:collect") Q E { s with heap:=h',toks:=tk }:=fun h' tk acc' c' hk hs hacc=>by
  show wpAny _ A (load s.heap.objs.size >>= _) _ _ _;refine wpAny_bind (wpAny_load hs ?_);exact wpAny_pure (hQ h' tk acc' (fun b o e=>hk b o (Nat.ne_of_lt (Heap.lt_size e)) (Heap.get?_push_of_some _ e)) hacc)
 refine wpAny_mono (wpAny_extend_range (A:=A) (R:=fun r s'=>r=.ok (.ret (.ref s.heap.objs.size))/\wpAny (model prog w) A (match Value.ref s.heap.objs.size with
   | Value.ref a=>do
    match (<-load a).data with
     | Data.seq xs _=>pure xs.toList
     | _=>unsupported "internal:collect"
   | _=>unsupported "internal:collect") Q E s')
  (s:={ s with heap:=s.heap.push { cls:=.type "list",data:=.seq ([]:List Value).toArray } }) hh (Heap.get?_push_of_some _ hr) hsmall hn hlen _ _ 0 hS fun h' tk acc' c' hk hs hacc=>⟨rfl,fin' h' tk acc' c' hk hs hacc⟩) (fun fin s' h=>?_) (fun e s' h=>?_)
 ·cases fin with
  | done f=>
   obtain⟨e,h⟩:=h;cases e;exact h
  | again c'=>exact⟨h.1,codeAny_mono h.2 fun r s'' hr=>by obtain⟨rfl,hr⟩:=hr;exact hr⟩
 ·exact absurd h.1 (by simp)
theorem xn(r:Addr)(o:Obj)(a b:Int)(t u v:Tok)(n:Nat)(ho:o={ cls:=.type "range",data:=.fields #[.int a t,.int b u,.int 1 v] })(hsmall:Builtin.Range.small a b 1=true)(hn:Builtin.Range.rangeSize a b 1=n)(hlen:n<=2 ^ 24):
  Meets (Builtin.«tuple.__new__» ⟨[.type "tuple",.ref r],[]⟩)
   (fun A R s=>A.handled=none/\s.heap.get? r=some o/\∀(h':Heap) (tk:Nat) (acc:Array Value),(∀b o',s.heap.get? b=some o'->h'.get? b=some o')->ItemsOf (fun i v=>∃t,v=.int (a+i*1) t) acc n->R (.ok (.ret (.ref h'.objs.size))) { s with heap:=h'.push { cls:=.type "tuple",data:=.seq acc },toks:=tk }):=
 .of_wp fun prog w A R s h=>by
  obtain⟨hp,g,d,tk,os⟩:=s;obtain⟨hh,ht,h⟩:=h;have hsub:=sub_tuple_self;have hinit:=init_tuple_lookup;have hmh:=madeHere_tuple;have hT:Shared.TypeIs ⟨hp,g,d,tk,os⟩ (.ref r) "range":=⟨o,ht,by rw[ho]⟩
  wp_walk using wpAny_loadPart' ht,wpAny_typeOf hT,z2U (A:=A.in1) hh (by rw[ho]at ht;exact ht) hsmall hn hlen
  intro h' tk' acc hk hacc;show wpAny _ _ (Builtin.Tuple.tupleExact acc.toList.toArray >>= fun v=>ret v) _ _ _;unfold Builtin.Tuple.tupleExact;refine wpAny_bind (wpAny_newObj_type ?_ (by show acc.toList.toArray.size<=sizeLine;rw[sizeLine_eq];simp;rw[hacc.1];omega));refine wpAny_pure ⟨_,rfl,?_⟩;have e:acc.toList.toArray=acc:=by simp
  rw[e];exact h h' tk' acc hk hacc
theorem z0C{r:Addr}{a b:Int}{t u v:Tok}{n:Nat}{Q:Value->Shared->Prop}(hh:A.handled=none)(hr:IsRange s.heap r a b 1 t u v)(hsmall:Builtin.Range.small a b 1=true)(hn:Builtin.Range.rangeSize a b 1=n)(hlen:n<=2 ^ 24)
  (h:∀(h':Heap) (tk:Nat) (acc:Array Value),(∀b o',s.heap.get? b=some o'->h'.get? b=some o')->ItemsOf (fun i v=>∃t,v=.int (a+i*1) t) acc n->Q (.ref h'.objs.size) { s with heap:=h'.push { cls:=.type "tuple",data:=.seq acc },toks:=tk }) :
  wpAny (model prog w) A (call (.type "tuple") [.ref r]) Q E s:=
 callType_new F.called_tuple (by decide) (F.typeCall_tuple_1 _) (F.newCall_tuple_1 _) (fun obj=>F.args_object_init_2 obj _) F.entry_tuple_new
  (xn r _ a b t u v n rfl hsmall hn hlen) ⟨hh,hr,fun h' tk acc hk hacc=>⟨⟨_,Heap.get?_push_size _ rfl,rfl⟩,h h' tk acc hk hacc⟩⟩
end
end PySem
namespace L2
open PySem PySem.Spec PyProof.Rows
noncomputable def rngV(lo:Int)(n:Nat):List V:=(List.range n).map fun(i:Nat)=>V.int (lo+(i:Int))
theorem z3S{acc:Array Value}{lo:Int}{n:Nat}(h:ItemsOf (fun i v=>∃t,v=.int (lo+i*1) t) acc n):Vals (rngV lo n) acc.toList:=by
 have gen:∀(l:List Value) (k:Nat),(∀(j:Nat) (v:Value),l[j]?=some v->∃t,v=Value.int (lo+((k+j:Nat):Int)) t)->Vals ((List.range' k l.length).map fun(i:Nat)=>V.int (lo+(i:Int))) l:=by
  intro l
  induction l with
  | nil=>intro k _;exact .nil
  | cons x r ih=>
   intro k hk;rw[List.length_cons,List.range'_succ,List.map_cons];refine .cons ?_ (ih (k+1) fun j v e=>?_)
   ·obtain⟨t,e⟩:=hk 0 x rfl;exact⟨t,by simpa using e⟩
   ·obtain⟨t,e2⟩:=hk (j+1) v (by simpa using e);exact⟨t,by rw[e2,show k+(j+1)=k+1+j by omega]⟩
 have:=gen acc.toList 0 fun j v e=>by
  obtain⟨t,e2⟩:=h.2 j v (by simpa using e);exact⟨t,by rw[e2];simp⟩
 unfold rngV;rw[List.range_eq_range',<-h.1];simpa using this
section
variable{X:Cx}{a b:Expr}{ta:TA}{p pos:Pos}
noncomputable def z98(ta:TA):TE:=fun σ H Q=>ta σ H fun vs H1=>∃j:Int,vs=[.int j]/\∀q,H1 q=none->Q (.ref q) (upd H1 q (.rng 0 j))
theorem z5Q(hg:Gl X "range")(hm:X.mg "range"=none)(ha:PA X [a] ta)(hs:starEach [a] X.env=[(false,eval a X.env)]:=by rfl):PE X (.Call (.Name "range" p) [a] [] pos) (z98 ta):=by
 intro pins s σ H Q I h;refine Call_ (uh I hg hm boot_range (PyProof.Rows.callWith_type1 (thn (ha pos pins s σ H _ I h) fun us s1 ⟨vs,H1,I1,r1,q1⟩=>?_) hs rfl));obtain⟨j,e,q⟩:=q1;subst e;cases r1 with
 | cons r rr=>
  cases rr;obtain⟨t,rfl⟩:=r;refine call_range_1 ⟨.ref s1.heap.objs.size,_,I1.laid (t':=s1.toks+1+1) (o:=.rng 0 j) (fun b o e=>Heap.get?_push_of_some _ e) (Nat.le_refl _) ?_,rfl,q _ (I1.hok.fresh (Nat.le_refl _))⟩;exact⟨_,_,_,Heap.get?_push_size _ rfl⟩
theorem z2X(hc:X.calm=true):CallR X (.type "tuple") (fun xs H Q=>∃q lo hi,xs=[.ref q]/\H q=some (.rng lo hi)/\(-1000000<=lo/\lo<=1000000)/\(-1000000<=hi/\hi<=1000000)/\∀l H',Same H H'->H' l=some (.tup (rngV lo (hi - lo).toNat))->Q (.ref l) H'):=by
 intro pins s σ H xs us Q I r h;obtain⟨q,lo,hi,rfl,hq,h1,h2,k⟩:=h;obtain⟨u,rfl,rx⟩:=xf r;cases rx;obtain⟨t,u,v,e⟩:=(show ObjOk X.prog X.w H s.heap q (.rng lo hi) from I.hok q _ hq);have hn:Builtin.Range.rangeSize lo hi 1=((hi - lo).toNat:Nat):=by rw[rangeSize_one];split<;>omega
 refine z0C (I.ok.hd hc) e (small_one (by omega) (by omega) (by omega) (by omega)) hn (by omega) fun h' tk acc hk hacc=>?_;have I1:Inv X pins σ H { s with heap:=h',toks:=tk }:=I.kept hk;have rv:=z3S hacc;have I2:Inv X pins σ (upd H h'.objs.size (.tup (rngV lo (hi - lo).toNat))) { s with heap:=h'.push { cls:=.type "tuple",data:=.seq acc },toks:=tk }:=
  I1.laid (fun b o e=>Heap.get?_push_of_some _ e) (Nat.le_refl _) (show ObjOk X.prog X.w _ _ _ (.tup (rngV lo (hi - lo).toNat)) from⟨⟨by rw[rv.length,Array.length_toList,hacc.1,sizeLine_eq];omega,_,Heap.get?_push_size _ rfl,rfl⟩,acc.toList,rv,⟨_,Heap.get?_push_size _ rfl,rfl,_,rfl⟩⟩)
 exact⟨.ref h'.objs.size,_,I2,rfl,k _ _ (Same.new (I1.hok.fresh (Nat.le_refl _))) zG⟩
theorem z4I(hc:X.calm=true):CallR X (.type "list") (fun xs H Q=>∃q lo hi,xs=[.ref q]/\H q=some (.rng lo hi)/\(-1000000<=lo/\lo<=1000000)/\(-1000000<=hi/\hi<=1000000)/\∀l,H l=none->Q (.ref l) (upd H l (.lst (rngV lo (hi - lo).toNat)))):=by
 intro pins s σ H xs us Q I r h;obtain⟨q,lo,hi,rfl,hq,h1,h2,k⟩:=h;obtain⟨u,rfl,rx⟩:=xf r;cases rx;obtain⟨t,u,v,e⟩:=(show ObjOk X.prog X.w H s.heap q (.rng lo hi) from I.hok q _ hq);have hn:Builtin.Range.rangeSize lo hi 1=((hi - lo).toNat:Nat):=by rw[rangeSize_one];split<;>omega
 refine call_list_range (I.ok.hd hc) e (small_one (by omega) (by omega) (by omega) (by omega)) hn (by omega) fun h' tk acc c hk hS hacc=>?_;have rv:=z3S hacc;exact⟨.ref s.heap.objs.size,_,I.laid hk (Nat.le_refl _) (show ObjOk X.prog X.w _ _ _ (.lst (rngV lo (hi - lo).toNat)) from⟨by rw[rv.length,Array.length_toList,hacc.1,sizeLine_eq];omega,acc.toList,c,rv,hS⟩),rfl,k _ (I.hok.fresh (Nat.le_refl _))⟩
end
section
variable{K:W.Frag}{Er:Str->Hp->Prop}{X:Cx}{e a b:Expr}{es:List Expr}{ms:Env'->Mx (List D)}{pos:Pos}
variable{g:Gh}{ow:Ix->Option Addr}{ρ:Env'}{n n':Wd}{σ:St}{H H' H1:Hp}
noncomputable def fRg1(j:List PyData->PyData):List PyData->Option PyData:=fun ds=>(yl ds).map j
theorem z1c{S:Addr->Prop}{lo hi:Int}:DatsS S H (rngD lo hi) (rngV lo (hi - lo).toNat):=uQ (fun i=>lo+(i:Int)) _
theorem z3v{ds:List PyData}{r:List PyData}(h:yl ds=some r):∃j,ds=[.int j]/\(-1000000<=j/\j<=1000000)/\r=rngD 0 j:=by
 unfold yl at h;split at h
 next j=>
  split at h
  next hl=>cases h;exact⟨j,rfl,hl,rfl⟩
  next=>cases h
 next=>cases h
noncomputable abbrev zCQ:List V->Hp->VK->Prop:=fun xs H Q=>∃q lo hi,xs=[.ref q]/\H q=some (.rng lo hi)/\(-1000000<=lo/\lo<=1000000)/\(-1000000<=hi/\hi<=1000000)/\∀l H',Same H H'->H' l=some (.tup (rngV lo (hi - lo).toNat))->Q (.ref l) H'
theorem z25(h:PE X e (tCB zCQ (z0B (z98 (rdG RAW K Er ms)) tNil))):DE K Er X e (zV (fRg1 PyData.tuple) ms):=z9a (fun σ H Q hq=>by
 obtain⟨g,ow,ρ,n,f,q⟩:=hq;refine⟨g,ow,ρ,n,f,q.imp (fun _ _ _ z=>z) fun vs H1 ⟨S,ds,r,hS,h1,hf,q⟩=>?_⟩;obtain⟨z,ez,ez2⟩:=Option.map_eq_some_iff.mp hf;obtain⟨j,rfl,hj,rfl⟩:=z3v ez;subst ez2;obtain⟨v,rfl,rv⟩:=all1 h1;refine⟨j,by rw[y0 rv],fun p hp=>⟨p,0,j,rfl,zG,⟨by decide,by decide⟩,hj,fun l H' s hl=>q _ _ ((Same.new hp).trans s) (wo hl z1c)⟩⟩) h
noncomputable def z7k(f:List PyData->Option (List PyData))(ms:Env'->Mx (List D)):Env'->Mx PyData:=fun ρ=>ms ρ >>= fun ds=>Mx.opt ((onPs f ds).map PyData.list)
theorem zAs{f:List PyData->Option (List PyData)}{t:TE}(hp:PE X e t)
  (h:∀σ H Q,rdG RAW K Er ms σ H (fun vs H1=>∃S ds zs,(∀a,S a->H1 a≠none)/\All2 (Dat1 N0 S H1) ds vs/\f ds=some zs/\∀p H2 ys,Same H1 H2->H2 p=none->DatsS S H2 zs ys->Q (.ref p) (upd H2 p (.lst ys)))->t σ H Q):DF K Er X e (z7k f ms):=hp.imp fun σ H Q hq=>h σ H Q (rd1 hq ww fun g ow ρ n ds vs H0 H2 fr _ r q=>by
 obtain⟨z,e,q2⟩:=z0A q;obtain⟨zs,ez,ez2⟩:=Option.map_eq_some_iff.mp e;subst ez2;obtain⟨xs,e1,e2⟩:=Option.bind_eq_some_iff.mp ez;refine⟨g.S ow,xs,zs,fr.dom,z6I e1 r,e2,fun p H3 ys s hn dd=>?_⟩;have s2:=Same.new (o:=.lst ys) hn;refine q2 (.ref p) _ (s.trans s2).kp ((s.trans s2).twn fr.twn) ⟨p,rfl,s.free hn,Pl.upd,?_⟩;simp only[Dat1];exact⟨p,ys,rfl,id,zG,DatsS.kp (Kp.of s2) (fun b z=>z.elim .inl fun e=>.inr (e▸hn)) dd⟩)
noncomputable abbrev zD2:List V->Hp->VK->Prop:=fun xs H Q=>∃q lo hi,xs=[.ref q]/\H q=some (.rng lo hi)/\(-1000000<=lo/\lo<=1000000)/\(-1000000<=hi/\hi<=1000000)/\∀l,H l=none->Q (.ref l) (upd H l (.lst (rngV lo (hi - lo).toNat)))
theorem z2M(h:PE X e (tCB zD2 (z0B (z98 (rdG RAW K Er ms)) tNil))):DF K Er X e (z7k yl ms):=zAs h fun σ H Q hq=>by
 obtain⟨g,ow,ρ,n,f,q⟩:=hq;refine⟨g,ow,ρ,n,f,q.imp (fun _ _ _ z=>z) fun vs H1 ⟨S,ds,zs,hS,h1,hf,q⟩=>?_⟩;obtain⟨j,rfl,hj,rfl⟩:=z3v hf;obtain⟨v,rfl,rv⟩:=all1 h1;exact⟨j,by rw[y0 rv],fun p hp=>⟨p,0,j,rfl,zG,⟨by decide,by decide⟩,hj,fun l hl=>q l _ _ (Same.new hp) hl z1c⟩⟩
end
noncomputable def z5M(K:W.Frag):Sp:=fun vs H Q _=>∃(a:Addr) (ns:List Int),vs=[.ref a]/\SqL K H a (ns.map V.int)/\ns.length<=63/\∀H',Q (.bl true) H'
noncomputable def wO(nn:Nat)(ns:List Int):Env':=some (Sl.val (.scr ns))::some (Sl.val .town)::List.replicate (nn - 2) none
def z9u(nn:Nat)(m:Env'->Mx Out):Prop:=∀ns:List Int,ns.length<=63->∃n',m (wO nn ns) ⟨0,[]⟩=.ok (.rt (.p (.bool true))) n'
theorem z5x{K:W.Frag}{Er:Str->Hp->Prop}{m:Env'->Mx Out}{nn:Nat}{ns:List Int}{a tw:Addr}{H:Hp}{σ:St}{E:Ends}(hσ:σ=some (.ref a)::some (.ref tw)::List.replicate (nn - 2) none)(hS:SqL K H a (ns.map V.int))(htw:H tw=none)
  (hm:∃n',m (wO nn ns) ⟨0,[]⟩=.ok (.rt (.p (.bool true))) n') (hE:∀H',E.rt (.bl true) H'):rdS K Er m E σ (upd H tw (.lst [])):=by
 obtain⟨n',hm⟩:=hm;subst hσ;refine⟨⟨a,ns,⟨some tw,fun _=>none⟩,fun _=>False,upd H tw (.lst [])⟩,fun _=>none,wO nn ns,⟨0,[]⟩,⟨⟨?_,⟨fun _ _ _ z=>(nomatch z),fun _ _ _ _ _ z=>(nomatch z),fun _ _ _ _ _ z=>(nomatch z)⟩⟩,?_,fun _ z=>z.elim,Kp.refl _ _,fun i d e=>?_,fun i x e=>?_,fun i kl e=>?_,fun i a e=>(nomatch e),fun i j a e=>(nomatch e),?_⟩,?_⟩
 ·rcases hS with hS | hS
  ·refine .inr ⟨fun z=>?_,(Same.new htw).seq (.inl hS)⟩;have z:tw=a:=z.elim (fun z=>Option.some.inj z) fun⟨_,_,z,_⟩=>(nomatch z);rcases hS with z2 | ⟨o,z2⟩
   ·rw[<-z,htw]at z2;cases z2
   ·rw[<-z,htw]at z2;cases z2
  ·exact .inl fun _=>.inr hS
 ·refine⟨fun b e=>?_,fun _ _ z=>(nomatch z)⟩;have e:tw=b:=Option.some.inj e;rw[<-e,zG];rfl
 ·unfold wO at e
  match i,e with
  | 0,e=>cases e;exact⟨.ref a,rfl,rfl,rfl⟩
  | 1,e=>cases e;exact⟨.ref tw,rfl,tw,rfl,rfl⟩
  | i+2,e=>
   have e:(List.replicate (nn - 2) (none:Option Sl))[i]?=some (some (Sl.val d)):=e;rw[List.getElem?_replicate]at e;split at e<;>cases e
 ·unfold wO at e
  match i,e with
  | 0,e=>cases e
  | 1,e=>cases e
  | i+2,e=>
   have e:(List.replicate (nn - 2) (none:Option Sl))[i]?=some (some (Sl.own x)):=e;rw[List.getElem?_replicate]at e;split at e<;>cases e
 ·unfold wO at e
  match i,e with
  | 0,e=>cases e
  | 1,e=>cases e
  | i+2,e=>
   have e:(List.replicate (nn - 2) (none:Option Sl))[i]?=some (some (Sl.deep kl)):=e;rw[List.getElem?_replicate]at e;split at e<;>cases e
 ·simp[wO]
 ·rw[hm];intro v H' _ _ r
  have:v=.bl true:=by simpa only[Rep,DatS]using r
  rw[this];exact hE H'
theorem zAo{P:Program}{w:World}{K:W.Frag}{mg:Str->Option Value}{base:Heap}{x qual:Str}{st:Stmt}{f:Addr}{fd:FuncData}{N:List Str}{k nn:Nat}{m:Env'->Mx Out}{s0:Stmt}{rest:List Stmt}(F:Fun K x qual st f fd)(S:FnScope N ["_law_script"] (zC st))(hn:N.length=nn)(h2:2<=nn)(hb:yb st=s0::rest)
  (h0:∀(cdv:Value) (A:Around) (outer:List Env) (s:Shared) (H:Hp) (E:XK),PS (cxOf CX0 P w K mg base N qual (zC st) f cdv A outer s H E).nox s0 (tAsg (tLst tNil) (z1G 1)))
  (h:∀(cdv:Value) (A:Around) (outer:List Env) (s:Shared) (H:Hp) (E:XK),Room k (A.deeper (envOfC qual (zC st) s.heap.objs.size f cdv))->DSs K (fun _ _=>False) (cxOf CX0 P w K mg base N qual (zC st) f cdv A outer s H E).nox rest m) (tells:z9u nn m) :
  FnOk P w K mg base CX0 (k+1) f fd ["_law_script"] (z5M K):=by
 subst hn;refine F.ok S (fun vs H Q E h=>?_) fun cdv A outer s H vs Q E hr hsp=>?_
 ·obtain⟨a,ns,rfl,_⟩:=h;rfl
 ·obtain⟨a,ns,rfl,hS,hl,hq⟩:=hsp;rw[hb];refine⟨_,uJ (h0 cdv A outer s H E) (h cdv A outer s H E hr),Nat.zero_le _,fun tw htw=>?_⟩;refine z5x (nn:=N.length) ?_ hS htw (tells ns hl) fun H'=>hq H';unfold start;obtain⟨j,hj⟩:∃j,N.length=j+2:=⟨N.length - 2,by omega⟩;rw[hj];rfl
open PySem
set_option genInjectivity false in
set_option genSizeOfSpec false in
structure Fn1 where
 a:Addr
 d:FuncData
structure FT(K:W.Frag)(mg:Str->Option Value)(x:Str)(ps:List Str)(st:Stmt)(t:Fn1):Prop where
 F:Fun K x x st t.a t.d
 m:mg x=some (.ref t.a)
 k:W.keepIn K (.ref t.a)=true
 d:Binds K t.d ps []
set_option genInjectivity false in
set_option genSizeOfSpec false in
structure Hd where
 f:Addr
 oc:Value
 od:Option Addr
 an:Option Addr
 sl:Array (Option Value)
 kV:Value
 dc:Value
 pm:Value
 cd:Value
 ct:Value
noncomputable def Hd.t(y:Hd)(x:Str)(st:Stmt):Fn1:=⟨y.f,W.fnOf x x (xN st) (yb st) (zC st) .none y.kV y.dc y.pm y.an y.cd y.ct⟩
structure Giv(K:W.Frag)(x:Str)(st:Stmt)(y:Hd):Prop where
 a:W.nsIn K mainGlobals x=some (some (.ref y.f))
 l:K.lookup y.f=some ⟨y.oc,y.od,.func (y.t x st).d,y.sl⟩
 c:W.codeIn K y.cd x=true
 k:W.keepIn K (.ref y.f)=true
theorem Giv.of{K:W.Frag}{x:Str}{st:Stmt}{f:Addr}{oc kV dc pm cd ct:Value}{od an:Option Addr}{sl:Array (Option Value)}(a:W.nsIn K mainGlobals x=some (some (.ref f)))
  (l:K.lookup f=some ⟨oc,od,.func (W.fnOf x x (xN st) (yb st) (zC st) .none kV dc pm an cd ct),sl⟩) (c:W.codeIn K cd x=true) (k:W.keepIn K (.ref f)=true):Giv K x st ⟨f,oc,od,an,sl,kV,dc,pm,cd,ct⟩:=⟨a,l,c,k⟩
theorem Giv.fn{K:W.Frag}{x:Str}{st:Stmt}{y:Hd}(g:Giv K x st y):Fun K x x st (y.t x st).a (y.t x st).d:=zB7 (st:=st) g.l g.c g.k
theorem Giv.ft{K:W.Frag}{h:Heap}{mg:Str->Option Value}{x:Str}{st:Stmt}{y:Hd}{ps:List Str}(g:Giv K x st y)(X:K.In h)(G:h.Ns mainGlobals mg)(b:Binds K (y.t x st).d ps []):FT K mg x ps st (y.t x st):=⟨g.fn,W.mg_of X G g.a,g.k,b⟩
theorem Giv.f1{K:W.Frag}{h:Heap}{mg:Str->Option Value}{x p0:Str}{st:Stmt}{y:Hd}(g:Giv K x st y)(X:K.In h)(G:h.Ns mainGlobals mg)(b:∀(kV doc pm:Value) (an:Option Addr) (cdv ct u0:Value),bindArgs (W.fnOf x x (xN st) (yb st) (zC st) .none kV doc pm an cdv ct) ⟨[u0],[]⟩=pure [(p0,u0)]):FT K mg x [p0] st (y.t x st):=
 g.ft X G (g.fn.binds fun kV doc pm an cdv ct us hl=>by
  match us,hl with
  | [u0],_=>exact b ..)
theorem Giv.f2{K:W.Frag}{h:Heap}{mg:Str->Option Value}{x p0 p1:Str}{st:Stmt}{y:Hd}(g:Giv K x st y)(X:K.In h)(G:h.Ns mainGlobals mg)(b:∀(kV doc pm:Value) (an:Option Addr) (cdv ct u0 u1:Value),bindArgs (W.fnOf x x (xN st) (yb st) (zC st) .none kV doc pm an cdv ct) ⟨[u0,u1],[]⟩=pure [(p0,u0),(p1,u1)]):FT K mg x [p0,p1] st (y.t x st):=
 g.ft X G (g.fn.binds fun kV doc pm an cdv ct us hl=>by
  match us,hl with
  | [u0,u1],_=>exact b ..)
theorem Giv.f3{K:W.Frag}{h:Heap}{mg:Str->Option Value}{x p0 p1 p2:Str}{st:Stmt}{y:Hd}(g:Giv K x st y)(X:K.In h)(G:h.Ns mainGlobals mg)(b:∀(kV doc pm:Value) (an:Option Addr) (cdv ct u0 u1 u2:Value),bindArgs (W.fnOf x x (xN st) (yb st) (zC st) .none kV doc pm an cdv ct) ⟨[u0,u1,u2],[]⟩=pure [(p0,u0),(p1,u1),(p2,u2)]):FT K mg x [p0,p1,p2] st (y.t x st):=
 g.ft X G (g.fn.binds fun kV doc pm an cdv ct us hl=>by
  match us,hl with
  | [u0,u1,u2],_=>exact b ..)
theorem z5k(b:List Int):HT.lexLt b []=false:=by cases b<;>rfl
theorem wD:∀a:List Int,HT.lexLt a a=false
 | []=>rfl
 | x::r=>by rw[HT.lexLt_cons,if_pos rfl];exact wD r
theorem z05:∀{a b:List Int},HT.lexLt a b=false->HT.lexLt b a=false->a=b
 | [],[],_,_=>rfl
 | [],_::_,h,_=>by cases h
 | _::_,[],_,h=>by cases h
 | x::r,y::s,h,k=>by
  rw[HT.lexLt_cons]at h k;by_cases e:x=y
  ·subst e;rw[if_pos rfl]at h k;rw[z05 h k]
  ·rw[if_neg e]at h;rw[if_neg (Ne.symm e)]at k;have h1:=of_decide_eq_false h;have h2:=of_decide_eq_false k;omega
theorem yi:∀{a b c:List Int},HT.lexLt a b=true->HT.lexLt b c=true->HT.lexLt a c=true
 | a,b,[],_,k=>by rw[z5k]at k;cases k
 | a,[],_::_,h,_=>by rw[z5k]at h;cases h
 | [],_::_,_::_,_,_=>rfl
 | x::r,y::s,z::t,h,k=>by
  rw[HT.lexLt_cons]at h k |-;by_cases e1:x=y
  ·subst e1;rw[if_pos rfl]at h;by_cases e2:x=z
   ·subst e2;rw[if_pos rfl]at k |-;exact yi h k
   ·rw[if_neg e2]at k |-;exact k
  ·rw[if_neg e1]at h;have h1:=of_decide_eq_true h;by_cases e2:y=z
   ·subst e2;rw[if_neg e1];exact h
   ·rw[if_neg e2]at k;have h2:=of_decide_eq_true k;rw[if_neg (by omega)];exact decide_eq_true (by omega)
noncomputable def rank(k:Nat->List Int)(n i:Nat):Int:=(((List.range n).filter fun j=>HT.lexLt (k j) (k i)).length:Nat)
theorem uZ{α:Type}{p q:α->Bool}:∀{l:List α},(∀x∈l,p x=true->q x=true)->(l.filter p).length<=(l.filter q).length
 | [],_=>Nat.le_refl _
 | x::r,h=>by
  have ih:=uZ (l:=r) fun y hy=>h y (List.mem_cons_of_mem _ hy);rw[List.filter_cons,List.filter_cons];by_cases hp:p x=true
  ·rw[if_pos hp,if_pos (h x List.mem_cons_self hp)];simp only[List.length_cons];omega
  ·rw[if_neg hp];split
   ·simp only[List.length_cons];omega
   ·exact ih
theorem z1k{α:Type}{p q:α->Bool}{z:α}(hz:p z=false)(hq:q z=true):∀{l:List α},z∈l->(∀x∈l,p x=true->q x=true)->(l.filter p).length<(l.filter q).length
 | [],m,_=>nomatch m
 | x::r,m,h=>by
  have h':∀y∈r,p y=true->q y=true:=fun y hy=>h y (List.mem_cons_of_mem _ hy);rw[List.filter_cons,List.filter_cons];rcases List.mem_cons.mp m with e | m
  ·subst e;rw[if_neg (by rw[hz];exact Bool.false_ne_true),if_pos hq,List.length_cons]
   have:=uZ h';omega
  ·have ih:=z1k hz hq m h';by_cases hp:p x=true
   ·rw[if_pos hp,if_pos (h x List.mem_cons_self hp),List.length_cons,List.length_cons];omega
   ·rw[if_neg hp];split
    ·rw[List.length_cons];omega
    ·exact ih
theorem z2x{k:Nat->List Int}{n i j:Nat}(hi:i<n):decide (rank k n i<rank k n j)=HT.lexLt (k i) (k j):=by
 unfold rank;cases h:HT.lexLt (k i) (k j)with
 | true=>
  refine decide_eq_true ?_
  have:=z1k (p:=fun x=>HT.lexLt (k x) (k i)) (q:=fun x=>HT.lexLt (k x) (k j)) (z:=i) (wD _) h (List.mem_range.mpr hi) fun x _ hx=>yi hx h;omega
 | false=>
  refine decide_eq_false ?_
  have:=uZ (l:=List.range n) (p:=fun x=>HT.lexLt (k x) (k j)) (q:=fun x=>HT.lexLt (k x) (k i)) fun x _ hx=>by
   cases h2:HT.lexLt (k j) (k i)with
   | true=>exact yi hx h2
   | false=>rw[z05 h h2];exact hx
  omega
theorem yf{α:Type}{key:α->List Int}:∀{l1 l2:List α},l1.Perm l2->l1.Pairwise (fun a b=>HT.lexLt (key b) (key a)=false)->l2.Pairwise (fun a b=>HT.lexLt (key b) (key a)=false)->(∀a∈l1,∀b∈l1,key a=key b->a=b)->l1=l2
 | [],l2,p,_,_,_=>(List.nil_perm.mp p).symm
 | a::r,[],p,_,_,_=>by have:=p.length_eq;simp at this
 | a::r,b::s,p,h1,h2,hk=>by
  obtain⟨a1,a2⟩:=List.pairwise_cons.mp h1;obtain⟨b1,b2⟩:=List.pairwise_cons.mp h2;have mb:b∈a::r:=p.mem_iff.mpr List.mem_cons_self;have ma:a∈b::s:=p.mem_iff.mp List.mem_cons_self;have e1:HT.lexLt (key b) (key a)=false:=by
   rcases List.mem_cons.mp mb with e | m
   ·rw[e];exact wD _
   ·exact a1 b m
  have e2:HT.lexLt (key a) (key b)=false:=by
   rcases List.mem_cons.mp ma with e | m
   ·rw[e];exact wD _
   ·exact b1 a m
  have e:a=b:=hk a List.mem_cons_self b mb (z05 e2 e1);subst e;rw[yf ((List.perm_cons a).mp p) a2 b2 fun x hx y hy=>hk x (List.mem_cons_of_mem _ hx) y (List.mem_cons_of_mem _ hy)]
noncomputable def insB{α:Type}(key:α->List Int)(x:α):List α->List α
 | []=>[x]
 | y::r=>if HT.lexLt (key x) (key y)=true then x::y::r else y::insB key x r
noncomputable def xI{α:Type}(key:α->List Int):List α->List α
 | []=>[]
 | x::r=>insB key x (xI key r)
theorem insB_perm{α:Type}{key:α->List Int}{x:α}:∀{l:List α},(insB key x l).Perm (x::l)
 | []=>List.Perm.refl _
 | y::r=>by
  unfold insB;split
  ·exact List.Perm.refl _
  ·exact((insB_perm (l:=r)).cons y).trans (List.Perm.swap x y r)
theorem yP{α:Type}{key:α->List Int}:∀(l:List α),(xI key l).Perm l
 | []=>List.Perm.refl _
 | x::r=>insB_perm.trans ((yP r).cons x)
theorem z00{α:Type}{key:α->List Int}{x:α}:∀{l:List α},l.Pairwise (fun a b=>HT.lexLt (key b) (key a)=false)->(insB key x l).Pairwise (fun a b=>HT.lexLt (key b) (key a)=false)
 | [],_=>List.pairwise_singleton _ _
 | y::r,h=>by
  obtain⟨h1,h2⟩:=List.pairwise_cons.mp h;unfold insB;split
  next c=>
   refine List.pairwise_cons.mpr ⟨fun z hz=>?_,h⟩;rcases List.mem_cons.mp hz with e | m
   ·subst e;cases q:HT.lexLt (key z) (key x)with
    | false=>rfl
    | true=>rw[<-wD (key x),yi c q]
   ·cases q:HT.lexLt (key z) (key x)with
    | false=>rfl
    | true=>rw[<-h1 z m,yi q c]
  next c=>
   refine List.pairwise_cons.mpr ⟨fun z hz=>?_,z00 h2⟩;rcases List.mem_cons.mp (insB_perm.mem_iff.mp hz)with e | m
   ·subst e;simpa using c
   ·exact h1 z m
theorem yO{α:Type}{key:α->List Int}:∀(l:List α),(xI key l).Pairwise (fun a b=>HT.lexLt (key b) (key a)=false)
 | []=>List.Pairwise.nil
 | x::r=>z00 (yO r)
open PySem.W (KasT kas_sort kas_ask kat_run kat_snds kat_kind kat_lt KatTups KatLex kat_nil kat_cons kat_go kat_yes kat_no kat_one kat_lt_int)
section
variable{prog:Program}{w:World}{A:Around}{E:Value->Shared->Prop}{s:Shared}
theorem z2V{x:Value}{vs:List Value}{Q:Value->Shared->Prop}{f:Nat->Int}{κ:SortKind}(h64:vs.length<64)
  (hcol:∀(Q':List Value->Shared->Prop),(∀h' tk,(∀b o,s.heap.get? b=some o->h'.get? b=some o)->Q' vs { s with heap:=h',toks:=tk })->wpAny (model prog w) A.in1 (collect x) Q' E s)
  (kind:∀(s':Shared) (Q:SortKind->Shared->Prop) (E:Value->Shared->Prop),2<=vs.length->(∀b o,s.heap.get? b=some o->s'.heap.get? b=some o)->Q κ s'->wpAny (model prog w) A.in1.in1 (keyKind' vs.toArray) Q E s')
  (cmp:∀(i j:Nat) (s':Shared) (Q:Bool->Shared->Prop) (E:Value->Shared->Prop),i<vs.length->j<vs.length->(∀b o,s.heap.get? b=some o->s'.heap.get? b=some o)->Q (decide (f i<f j)) s'->wpAny (model prog w) A.in1.in1 (keyLt' κ (vs.getD i Value.none) (vs.getD j Value.none)) Q E s')
  (h:∀(p:Array Nat) (h' hf:Heap) (e tk:Nat),p.Perm (List.toArray (List.range vs.length))->My.Up f p vs.length->(∀b o,s.heap.get? b=some o->h'.get? b=some o)->(∀b o,h'.get? b=some o->hf.get? b=some o)->hf.get? h'.objs.size=some (seqObj "list" (z2o vs p) e)->Q (.ref h'.objs.size) { s with heap:=hf,toks:=tk }) :
  wpAny (model prog w) A (call (.builtin "sorted") [x]) Q E s:=by
 refine Calls.call_function_entry kind_sorted plain_sorted entry_sorted (args_sorted1 _) ?_;unfold Builtin.«sorted»;refine wpAny_bind (m:=checkCount "sorted" 1 1 _) (wpAny_pure ?_);refine wpAny_bind (hcol _ fun h' tk kp0=>?_);refine wpAny_bind (wpAny_newList ?_ (by rw[sizeLine_eq];omega));have hoL:(h'.push (seqObj "list" vs.toArray 0)).get? h'.objs.size=some (seqObj "list" vs.toArray 0):=Heap.get?_push_size _ rfl;have kp:∀b o,s.heap.get? b=some o->(h'.push (seqObj "list" vs.toArray 0)).get? b=some o:=fun b o e=>Heap.get?_push_of_some _ (kp0 b o e);have ne:∀b o,s.heap.get? b=some o->b≠h'.objs.size:=fun b o e=>Nat.ne_of_lt (Heap.lt_size (kp0 b o e));show wpAny _ _ _ _ _ { s with heap:=h'.push (seqObj "list" vs.toArray 0),toks:=tk };refine wpAny_bind (wpAny_holding (wpAny_call_entry slot_list_sort ⟨_,hoL,rfl⟩ entry_list_sort (zD8 (f:=f) (κ:=κ) hoL h64 (fun s' Q' E' h2 k' hq=>kind s' Q' E' h2 (fun b o e=>k' b o (ne b o e) (kp b o e)) hq)
  (fun i j s' Q' E' hi hj k' hq=>cmp i j s' Q' E' hi hj (fun b o e=>k' b o (ne b o e) (kp b o e)) hq) fun p hp hup=>⟨_,rfl,?_⟩) (args_list_sort _)))
 obtain⟨e,he⟩:=sortedHeap_at (h:=h'.push (seqObj "list" vs.toArray 0)) (out:=z2o vs p) hoL;refine wpAny_pure ⟨_,rfl,h p h' _ e tk hp hup kp0 (fun b o eb=>?_) he⟩;rw[sortedHeap_old (Nat.ne_of_lt (Heap.lt_size eb)) (by rw[size_push'];exact Nat.lt_succ_of_lt (Heap.lt_size eb))];exact Heap.get?_push_of_some _ eb
theorem ue{fin:Bool}{Q:Bool->Shared->Prop}:∀{ns ms:List Int} {us ws:List Value} {i:Nat},Vals (ns.map V.int) us->Vals (ms.map V.int) ws->(fin=decide (i+ns.length<i+ms.length))->Q (HT.lexLt ns ms) s->KatLex prog w A true fin Q (us.zip ws) i s
 | [],[],_,_,i,.nil,.nil,hf,q=>kat_nil (by rw[hf,show decide (i+([]:List Int).length<i+([]:List Int).length)=false from decide_eq_false (by simp)];exact q)
 | [],_::_,_,_,i,.nil,.cons _ _,hf,q=>kat_nil (by rw[hf,decide_eq_true (by simp)];exact q)
 | _::_,[],_,_,i,.cons _ _,.nil,hf,q=>kat_nil (by rw[hf,show decide (i+(_::_:List Int).length<i+([]:List Int).length)=false from decide_eq_false (by simp)];exact q)
 | n::ns,m::ms,_,_,i,.cons ⟨t,e1⟩ r1,.cons ⟨t2,e2⟩ r2,hf,q=>by
  subst e1 e2;refine kat_cons (wpAny_eqBool_int (kat_go (fun he=>kat_yes ?_) fun he=>kat_no ?_))
  ·have he':n=m:=by simpa using he
   subst he';refine ue (i:=i+1) r1 r2 (by rw[hf];exact decide_eq_decide.mpr (by simp only[List.length_cons];omega)) ?_
   rwa [HT.lexLt_cons,if_pos rfl]at q
  ·have he':n≠m:=by simpa using he
   rw[HT.lexLt_cons,if_neg he']at q;cases hi:(true && i == 0)with
   | true=>
    have z:=kat_lt_int (prog:=prog) (w:=w) (A:=A) (E:=fun _ _=>False) (s:=s) (x:=n) (y:=m) (t:=t) (u:=t2) (Q:=Q) q;rw[keyLt'_oneType]at z;exact z
   | false=>exact kat_one _ _ (PyProof.Rows.lt_int q)
end
noncomputable def keyI:PyData->List Int
 | .int i=>[i]
 | .tuple ds=>(zn ds).getD []
 | _=>[]
noncomputable def isInt:PyData->Bool
 | .int _=>true
 | _=>false
noncomputable def xW:PyData->Bool
 | .tuple ds=>(zn ds).isSome && !ds.isEmpty
 | _=>false
noncomputable def y6(ds:List PyData):Bool:=(ds.all isInt || ds.all xW) && decide (ds.length<64)
noncomputable def wG:List PyData->Option PyData
 | [.list ds]=>if y6 ds=true then some (.list (xI keyI ds))else none
 | [.tuple ds]=>if y6 ds=true then some (.list (xI keyI ds))else none
 | _=>none
theorem z32{ds:List PyData}(h:y6 ds=true):∀a∈ds,∀b∈ds,keyI a=keyI b->a=b:=by
 unfold y6 at h;rw[Bool.and_eq_true,Bool.or_eq_true,List.all_eq_true,List.all_eq_true]at h;intro a ha b hb e;rcases h.1 with h1 | h1
 ·have a1:=h1 a ha;have b1:=h1 b hb;cases a<;>simp only[isInt]at a1<;>try cases a1
  cases b<;>simp only[isInt]at b1<;>try cases b1
  simp only[keyI]at e;cases e;rfl
 ·have a1:=h1 a ha;have b1:=h1 b hb;cases a<;>simp only[xW]at a1<;>try cases a1
  cases b<;>simp only[xW]at b1<;>try cases b1
  rename_i xs ys
  rw[Bool.and_eq_true]at a1 b1;obtain⟨ns,e1⟩:=Option.isSome_iff_exists.mp a1.1;obtain⟨ms,e2⟩:=Option.isSome_iff_exists.mp b1.1;simp only[keyI,e1,e2,Option.getD_some]at e;rw[yT e1,yT e2,e]
theorem um{f:Nat->Int}{p:Array Nat}{n:Nat}(hs:p.size=n)(h:My.Up f p n):p.toList.Pairwise fun i j=>f i<=f j:=by
 rw[List.pairwise_iff_getElem];intro i j hi hj hij
 have:=h.le (Nat.le_of_lt hij) (by rw[<-hs];simpa using hj);have hi':i<p.size:=by simpa using hi
 have hj':j<p.size:=by simpa using hj
 simpa[My.at_,hi',hj']using this
theorem z4g{S:Addr->Prop}{H:Hp}{ds:List PyData}{xs:List V}{its:List Value}(hd:DatsS S H ds xs)(rv:Vals xs its)(hs:y6 ds=true){p:Array Nat}(hp:p.Perm (List.toArray (List.range its.length)))(hup:My.Up (rank (fun i=>keyI (ds.getD i .none)) ds.length) p its.length):
  ∃ys,Vals ys (p.toList.map fun i=>its.getD i Value.none)/\DatsS S H (xI keyI ds) ys/\ys.length=ds.length:=by
 have l1:=hd.length;have l2:=rv.length;have hpl:p.toList.Perm (List.range ds.length):=by
  have:=hp.toList;rw[<-l2,<-l1]at this;simpa using this
 have hmem:∀i∈p.toList,i<ds.length:=fun i hi=>List.mem_range.mp (hpl.mem_iff.mp hi);have hn:p.toList.length=ds.length:=by rw[hpl.length_eq,List.length_range]
 have gen:∀l:List Nat,(∀i∈l,i<ds.length)->Vals (l.map fun i=>xs.getD i .non) (l.map fun i=>its.getD i Value.none)/\DatsS S H (l.map fun i=>ds.getD i .none) (l.map fun i=>xs.getD i .non):=fun l=>by
  induction l with
  | nil=>intro _;exact⟨.nil,.nil⟩
  | cons i l ih=>
   intro hl;obtain⟨g1,g2⟩:=ih fun j hj=>hl j (List.mem_cons_of_mem _ hj);have hi:=hl i List.mem_cons_self;obtain⟨v,e1,r1⟩:=hd.get (List.getElem?_eq_getElem hi);obtain⟨u,e2,r2⟩:=rv.get e1;have a1:ds.getD i .none=ds[i]:=by rw[List.getD_eq_getElem?_getD,List.getElem?_eq_getElem hi];rfl
   have a2:xs.getD i .non=v:=by rw[List.getD_eq_getElem?_getD,e1];rfl
   have a3:its.getD i Value.none=u:=by rw[List.getD_eq_getElem?_getD,e2];rfl
   refine⟨.cons (by show RelV (xs.getD i .non) (its.getD i Value.none);rw[a2,a3];exact r2) g1,.cons (by show DatS S H (ds.getD i .none) (xs.getD i .non);rw[a1,a2];exact r1) g2⟩
 obtain⟨g1,g2⟩:=gen p.toList hmem;have e2:(List.range ds.length).map (fun i=>ds.getD i .none)=ds:=by
  refine List.ext_getElem (by simp) fun i a b=>?_;simp[List.getD_eq_getElem?_getD,b]
 have perm:(p.toList.map fun i=>ds.getD i .none).Perm ds:=by
  have:=hpl.map fun i=>ds.getD i .none
  rwa [e2]at this
 have pw:(p.toList.map fun i=>ds.getD i .none).Pairwise fun a b=>HT.lexLt (keyI b) (keyI a)=false:=by
  rw[List.pairwise_map];refine(um (n:=its.length) (by simpa[<-l2,<-l1]using hn) hup).imp_of_mem fun{i j} hi hj hle=>?_;rw[<-z2x (n:=ds.length) (k:=fun i=>keyI (ds.getD i .none)) (hmem j hj)];exact decide_eq_false (by omega)
 have e3:=yf (perm.trans (yP ds).symm) pw (yO ds) fun a ha b hb=>z32 hs a (perm.mem_iff.mp ha) b (perm.mem_iff.mp hb);refine⟨_,g1,by rw[<-e3];exact g2,by rw[List.length_map,hn]⟩
variable{X:Cx}
theorem yd{S:Addr->Prop}{H:Hp}:∀{ds:List PyData} {ns:List Int} {ys:List V},zn ds=some ns->DatsS S H ds ys->ys=ns.map V.int:=fun{ds ns ys} e h=>by
 rw[yT e]at h;clear e
 induction ns generalizing ys with
 | nil=>simpa only[List.map_nil,DatsS]using h
 | cons n ns ih=>
  simp only[List.map_cons,DatsS]at h;obtain⟨x,r,rfl,h1,h2⟩:=h;simp only[DatS]at h1;rw[h1,ih h2];rfl
theorem xP{pins:List (Addr×Obj)}{s:Shared}{σ:L2.St}{H:Hp}{Q:VK}{S:Addr->Prop}{x:Value}{ds:List PyData}{xs:List V}{its:List Value}(I:L2.Inv X pins σ H s)(hS:∀a,S a->H a≠none)(hd:DatsS S H ds xs)(rv:Vals xs its)(hs:y6 ds=true)
  (hcol:∀(Q':List Value->Shared->Prop),(∀h' tk,(∀b o,s.heap.get? b=some o->h'.get? b=some o)->Q' its { s with heap:=h',toks:=tk })->wpAny (model X.prog X.w) X.A.in1 (collect x) Q' X.xe s)
  (q:∀v H',Same H H'->DatS S H' (.list (xI keyI ds)) v->Q v H'):wpAny (model X.prog X.w) X.A (call (.builtin "sorted") [x]) (EP X pins σ Q) X.xe s:=by
 have l1:=hd.length;have l2:=rv.length;have hs':=hs;unfold y6 at hs';rw[Bool.and_eq_true,Bool.or_eq_true,List.all_eq_true,List.all_eq_true]at hs';have h64:its.length<64:=by
  have:=of_decide_eq_true hs'.2;omega
 have fin:∀(p:Array Nat) (h' hf:Heap) (e tk:Nat),p.Perm (List.toArray (List.range its.length))->My.Up (rank (fun i=>keyI (ds.getD i .none)) ds.length) p its.length->(∀b o,s.heap.get? b=some o->h'.get? b=some o)->(∀b o,h'.get? b=some o->hf.get? b=some o)->hf.get? h'.objs.size=some (seqObj "list" (z2o its p) e)->EP X pins σ Q (.ref h'.objs.size) { s with heap:=hf,toks:=tk }:=fun p h' hf e tk hp hup k1 k2 ho=>by
  obtain⟨ys,rv',dv,hl⟩:=z4g hd rv hs hp hup;have I1:=I.kept (t':=tk) k1;refine⟨.ref h'.objs.size,_,I1.laid (t':=tk) (a:=h'.objs.size) (o:=.lst ys) (h':=hf) k2 (Nat.le_refl _) ⟨by rw[hl,sizeLine_eq];omega,_,e,rv',ho⟩,rfl,q _ _ (Same.new (I1.hok.fresh (Nat.le_refl _))) (xt hS (I1.hok.fresh (Nat.le_refl _)) dv)⟩
 have at1:∀i,i<its.length->∃d v u,ds[i]?=some d/\ds.getD i .none=d/\d∈ds/\DatS S H d v/\RelV v u/\its.getD i Value.none=u:=fun i hi=>by
  have hi':i<ds.length:=by omega
  obtain⟨v,e1,r1⟩:=hd.get (List.getElem?_eq_getElem hi');obtain⟨u,e2,r2⟩:=rv.get e1;exact⟨ds[i],v,u,List.getElem?_eq_getElem hi',by rw[List.getD_eq_getElem?_getD,List.getElem?_eq_getElem hi'];rfl,List.getElem_mem hi',r1,r2,by rw[List.getD_eq_getElem?_getD,e2];rfl⟩
 rcases hs'.1 with h1 | h1
 ·have getv:∀i,i<its.length->∃n t,its.getD i Value.none=.int n t/\keyI (ds.getD i .none)=[n]:=fun i hi=>by
   obtain⟨d,v,u,e0,e1,hm,r1,r2,e2⟩:=at1 i hi;have a1:=h1 d hm;cases d<;>simp only[isInt]at a1<;>try cases a1
   simp only[DatS]at r1;subst r1;obtain⟨t,rfl⟩:=r2;exact⟨_,t,e2,by rw[e1];rfl⟩
  refine z2V (κ:=oneType') (f:=rank (fun i=>keyI (ds.getD i .none)) ds.length) h64 hcol (fun s' Q' E' h2 kp hq'=>?_) (fun i j s' Q' E' hi hj kp hq'=>?_) fin
  ·refine W.kas_kind (T:=.type "int") h2 (fun v hv=>?_) rfl rfl hq';obtain⟨i,hi,rfl⟩:=List.mem_iff_getElem.mp hv;obtain⟨n,t,e,_⟩:=getv i hi;rw[List.getD_eq_getElem?_getD,List.getElem?_eq_getElem hi]at e;have e':its[i]=.int n t:=e;rw[e'];exact W.Looks.of_pure rfl
  ·obtain⟨n,t,e1,k1⟩:=getv i hi;obtain⟨m,t2,e2,k2⟩:=getv j hj;rw[e1,e2];refine kat_lt_int ?_;rw[z2x (by omega)]at hq'
   have:HT.lexLt (keyI (ds.getD i .none)) (keyI (ds.getD j .none))=decide (n<m):=by
    rw[k1,k2,HT.lexLt_cons];split
    next he=>subst he;simp[HT.lexLt]
    next=>rfl
   rwa [this]at hq'
 ·have item:∀i,i<its.length->∃a ns us,its.getD i Value.none=.ref a/\keyI (ds.getD i .none)=ns/\ns≠[]/\Vals (ns.map V.int) us/\IsTup s.heap a us.toArray:=fun i hi=>by
   obtain⟨d,v,u,e0,e1,hm,r1,r2,e2⟩:=at1 i hi;have a1:=h1 d hm;cases d<;>simp only[xW]at a1<;>try cases a1
   rename_i ts
   rw[Bool.and_eq_true]at a1;obtain⟨ns,en⟩:=Option.isSome_iff_exists.mp a1.1;simp only[DatS]at r1;obtain⟨a,ys,rfl,hA,dy⟩:=r1;cases r2;have ey:=yd en dy;subst ey;obtain⟨us,rus,tp,_⟩:=I.tuple (SqT.of hA);refine⟨a,ns,us,e2,by rw[e1];simp only[keyI,en,Option.getD_some],fun z=>?_,rus,tp⟩
   have:=yT en;rw[z]at this;rw[this]at a1;simp at a1
  have up:∀{s':Shared} {c:Addr} {xs:Array Value},(∀b o,s.heap.get? b=some o->s'.heap.get? b=some o)->IsTup s.heap c xs->IsTup s'.heap c xs:=fun{s' c xs} kp t=>by
   obtain⟨o,e,r⟩:=t;exact⟨o,kp _ _ e,r⟩
  refine z2V (κ:=tuples' true) (f:=rank (fun i=>keyI (ds.getD i .none)) ds.length) h64 hcol (fun s' Q' E' h2 kp hq'=>?_) (fun i j s' Q' E' hi hj kp hq'=>?_) fin
  ·have tups:∀(l:List Nat),(∀i∈l,i<its.length)->∃fs:List Value,KatTups s'.heap (l.map fun i=>its.getD i Value.none) fs/\fs.length=l.length/\∀v∈fs,∃n t,v=.int n t:=fun l=>by
    induction l with
    | nil=>intro _;exact⟨[],trivial,rfl,fun v hv=>nomatch hv⟩
    | cons i l ih=>
     intro hl';obtain⟨fs,k1,k2,k3⟩:=ih fun j hj=>hl' j (List.mem_cons_of_mem _ hj);have hi:=hl' i List.mem_cons_self;obtain⟨a,ns,us,e1,ek,nn,rus,tp⟩:=item i hi;obtain⟨o,b1,b2,n,b3⟩:=up kp tp;cases ns with
     | nil=>exact absurd rfl nn
     | cons m ms=>
      cases rus with
      | cons ru1 ru2=>
       obtain⟨t,rfl⟩:=ru1;refine⟨.int m t::fs,?_,by simp[k2],fun v hv=>?_⟩
       ·rw[List.map_cons,e1];exact KatTups.cons b1 b2 b3 rfl k1
       ·rcases List.mem_cons.mp hv with rfl | hv
        ·exact⟨_,_,rfl⟩
        ·exact k3 v hv
   obtain⟨fs,k1,k2,k3⟩:=tups (List.range its.length) fun i hi=>List.mem_range.mp hi;have e:(List.range its.length).map (fun i=>its.getD i Value.none)=its:=by
    refine List.ext_getElem (by simp) fun i a b=>?_;simp[List.getD_eq_getElem?_getD,b]
   rw[e]at k1;rw[List.length_range]at k2;refine kat_kind (T:=.type "int") k1 (by omega) (fun v hv=>?_) rfl hq';obtain⟨n,t,rfl⟩:=k3 v hv;exact W.Looks.of_pure rfl
  ·obtain⟨a,ns,us,e1,ek1,nn1,rus1,tp1⟩:=item i hi;obtain⟨b,ms,ws,e2,ek2,nn2,rus2,tp2⟩:=item j hj;obtain⟨o,a1,a2,n,a3⟩:=up kp tp1;obtain⟨o',b1,b2,n',b3⟩:=up kp tp2;rw[e1,e2];refine kat_lt a1 a3 b1 b3 ?_;rw[z2x (by omega),ek1,ek2]at hq';have g1:=rus1.length;have g2:=rus2.length;rw[List.length_map]at g1 g2;exact ue (i:=0) rus1 rus2 (decide_eq_decide.mpr (by simp[g1,g2])) hq'
theorem z5S(hu:X.A.units+64<cLine):CallR X (.builtin "sorted") (rDn wG):=by
 intro pins s σ H xs us Q I r h;obtain⟨S,ds,rr,hS,h1,hf,q⟩:=h
 match ds,hf,h1 with
 | [.list xs],hf,h1=>
  simp only[wG]at hf;split at hf
  next hs=>
   cases hf;obtain⟨v,rfl,r1⟩:=all1 h1;obtain⟨a,ys,rfl,g1,k1⟩:=ym r1;obtain⟨u,rfl,ru⟩:=xf r;cases ru;obtain⟨its,rv,pl,hz⟩:=I.list (SqL.of g1);refine xP I hS k1 rv hs (fun Q' hq'=>?_) q;obtain⟨o,e1,e2,n,e3⟩:=pl.isList;exact wpAny_collect_seq a (.inl rfl) e1 e2 e3 (fun h' k=>hq' h' s.toks k) (by simpa[<-rv.length]using hz)
  next=>cases hf
 | [.tuple xs],hf,h1=>
  simp only[wG]at hf;split at hf
  next hs=>
   cases hf;obtain⟨v,rfl,r1⟩:=all1 h1;obtain⟨a,ys,rfl,g1,k1⟩:=yj r1;obtain⟨u,rfl,ru⟩:=xf r;cases ru;obtain⟨its,rv,pl,hz⟩:=I.tuple (SqT.of g1);refine xP I hS k1 rv hs (fun Q' hq'=>?_) q;obtain⟨o,e1,e2,n,e3⟩:=pl;exact wpAny_collect_seq a (.inr rfl) e1 e2 e3 (fun h' k=>hq' h' s.toks k) (by simpa[<-rv.length]using hz)
  next=>cases hf
end L2
namespace L2
open PySem PySem.Spec PyProof.Rows
variable{X:Cx}
noncomputable def z4N:List PyData->Option PyData
 | [.list ds]=>match zn ds with
  | some ns=>ns.min?.map PyData.int
  | none=>if ds.all xW=true then some (ds.getD (argBest (fun i j=>HT.lexLt (keyI (ds.getD i .none)) (keyI (ds.getD j .none))) (ds.length - 1)) .none)else none
 | _=>none
theorem z4V(hc:X.calm=true):CallR X (.builtin "min") (fun xs H Q=>∃(p:Addr) (ns:List Int),xs=[.ref p]/\SqL X.K H p (ns.map V.int)/\0<ns.length/\∀M,M∈ns->(∀a∈ns,M<=a)->Q (.int M) H):=by
 intro pins s σ H xs us Q I r h;obtain⟨p,ns,rfl,hq,hn,q⟩:=h;obtain⟨u,rfl,ru⟩:=xf r;cases ru;obtain⟨its,rv,pl,hz⟩:=I.list hq;have hi:IntsAre its ns:=L2.intsAre_of rv;obtain⟨xs,e⟩:=hi.allInts.items;have hns:ns=xs.toList.map (·.1):=by rw[<-hi.numsOf,<-nums_intItems,<-e]
 have hsz:0<xs.size:=by rw[hns,List.length_map,Array.length_toList]at hn;exact hn
 have hl:=pl.isList;rw[e]at hl;refine min_intList (I.ok.hd hc) hl hsz fun v h' tk hv hk=>?_;obtain⟨t,rfl⟩:=intItems_at hv;obtain⟨h1,h2⟩:=argBest_lt (numAt xs) (xs.size - 1);refine⟨.int _,H,I.kept (t':=tk) hk,⟨t,rfl⟩,q _ ?_ fun a ha=>?_⟩
 ·rw[hns,numAt_eq];exact getD_mem (by rw[List.length_map,Array.length_toList];omega)
 ·rw[hns]at ha;obtain⟨j,hj,rfl⟩:=mem_getD ha;rw[List.length_map,Array.length_toList]at hj;rw[<-numAt_eq];exact h2 j (by omega)
theorem z9s(hc:X.calm=true)(hu':X.A.units+64<cLine):CallR X (.builtin "min") (rDn z4N):=by
 have hu:X.A.in1.units<cLine:=by
  have:X.A.in1.units=X.A.units+1:=rfl;omega
 intro pins s σ H xs us Q I r h;obtain⟨S,ds,rr,hS,h1,hf,q⟩:=h
 match ds,hf,h1 with
 | [.list xs],hf,h1=>
  obtain⟨v,rfl,r1⟩:=all1 h1;obtain⟨a,ys,rfl,g1,k1⟩:=ym r1;simp only[z4N]at hf;cases e:zn xs with
  | some ns=>
   rw[e]at hf;dsimp only at hf;cases em:ns.min? with
   | none=>rw[em]at hf;cases hf
   | some M=>
    rw[em]at hf;cases hf;have ey:=yd e k1;subst ey;obtain⟨m1,m2⟩:=List.min?_eq_some_iff.mp em;refine z4V hc pins s σ H _ us Q I r ⟨a,ns,rfl,SqL.of g1,List.length_pos_of_mem m1,fun M' h3 h4=>?_⟩
    have:M'=M:=Int.le_antisymm (h4 M m1) (m2 M' h3);subst this;exact q _ _ (Same.refl _) di
  | none=>
   rw[e]at hf;simp only at hf;split at hf
   next ht=>
    cases hf;have ht':=List.all_eq_true.mp ht;have hn:0<xs.length:=by
     cases xs with
     | nil=>simp only[zn]at e;cases e
     | cons _ _=>exact Nat.succ_pos _
    have l1:=k1.length;have item:∀i,i<xs.length->∃b ns,ys[i]?=some (.ref b)/\keyI (xs.getD i .none)=ns/\H b=some (.tup (ns.map V.int))/\DatS S H (xs.getD i .none) (.ref b):=fun i hi=>by
     obtain⟨v,e1,d1⟩:=k1.get (List.getElem?_eq_getElem hi);have ed:xs.getD i .none=xs[i]:=by rw[List.getD_eq_getElem?_getD,List.getElem?_eq_getElem hi];rfl
     have a1:=ht' _ (List.getElem_mem hi);rw[ed];cases ex:xs[i]<;>rw[ex]at a1 d1<;>simp only[xW]at a1<;>try cases a1
     rename_i ts
     rw[Bool.and_eq_true]at a1;obtain⟨ns,en⟩:=Option.isSome_iff_exists.mp a1.1;have d2:=d1;simp only[DatS]at d2;obtain⟨b,zs,rfl,hb,dz⟩:=d2;have ez:=yd en dz;subst ez;exact⟨b,ns,e1,by simp only[keyI,en,Option.getD_some],hb,d1⟩
    obtain⟨u,rfl,ru⟩:=xf r;cases ru;obtain⟨its,rv,pl,hz⟩:=I.list (SqL.of g1);have l2:=rv.length;refine z87 (bt:=fun i j=>HT.lexLt (keyI (xs.getD i .none)) (keyI (xs.getD j .none))) (I.ok.hd hc) pl.isList (by omega) (fun i j vi vj s' Q' E' e1 e2 kp hq'=>?_) fun v h' tk hv kp=>?_
    ·have hi:i<xs.length:=by rw[l1,l2];exact(List.getElem?_eq_some_iff.mp e1).1
     have hj:j<xs.length:=by rw[l1,l2];exact(List.getElem?_eq_some_iff.mp e2).1
     obtain⟨b,ns,y1,n1,t1,_⟩:=item i hi;obtain⟨c,ms,y2,n2,t2,_⟩:=item j hj;obtain⟨v1,e3,rr1⟩:=rv.get y1;obtain⟨v2,e4,rr2⟩:=rv.get y2;rw[e3]at e1;cases e1;rw[e4]at e2;cases e2;cases rr1;cases rr2;obtain⟨its1,q1,p1,_⟩:=I.tuple (SqT.of t1);obtain⟨its2,q2,p2,_⟩:=I.tuple (SqT.of t2);have up:∀{c:Addr} {xs:Array Value},IsTup s.heap c xs->IsTup s'.heap c xs:=fun{c xs} t=>by
      obtain⟨o,e,r⟩:=t;exact⟨o,kp _ _ e,r⟩
     rw[n1,n2]at hq';exact HT.lt_tupInts (up p1) (up p2) (L2.intsAre_of q1) (L2.intsAre_of q2) hu hq'
    ·have hb:argBest (fun i j=>HT.lexLt (keyI (xs.getD i .none)) (keyI (xs.getD j .none))) (its.length - 1)<xs.length:=by rw[l1,l2];exact(List.getElem?_eq_some_iff.mp hv).1
     obtain⟨b,ns,y1,n1,t1,d1⟩:=item _ hb;obtain⟨v1,e3,rr1⟩:=rv.get y1;rw[e3]at hv;cases hv;cases rr1;refine⟨.ref b,H,I.kept (t':=tk) kp,rfl,q _ _ (Same.refl _) ?_⟩;rw[show xs.length=its.length by rw[l1,l2]];exact d1
   next=>cases hf
end L2
namespace L2
open PySem PySem.Spec PyProof.Rows
section
variable{prog:Program}{w:World}{A:Around}{E:Value->Shared->Prop}{s:Shared}
def DictIs(h:Heap)(d:Addr)(es:Array DictEntry)(ep:Nat):Prop:=∃o,h.get? d=some o/\o.ExactDict/\o.data=.dict es ep
theorem DictIs.at{h h':Heap}{d:Addr}{es:Array DictEntry}{ep:Nat}(x:DictIs h d es ep)(e:∀o,h.get? d=some o->h'.get? d=some o):DictIs h' d es ep:=by
 obtain⟨o,ho,r⟩:=x;exact⟨o,e _ ho,r⟩
theorem DictIs.typeIs{d:Addr}{es:Array DictEntry}{ep:Nat}(x:DictIs s.heap d es ep):s.TypeIs (.ref d) "dict":=by
 obtain⟨o,ho,hc,_⟩:=x;exact⟨o,ho,hc.1⟩
theorem z5h{it d:Addr}{i ep:Nat}{es:Array DictEntry}{Q:Option Value->Shared->Prop}(hit:s.heap.IsKeyIter it d i es.size ep)(hm:DictIs s.heap d es ep)(hlt:i<es.size)
  (hQ:∀h',h'.IsKeyIter it d (i+1) es.size ep->Heap.SameBut it s.heap h'->Q (some es[i].key) { s with heap:=h' }):wpAny (model prog w) A (pyNext (.ref it)) Q E s:=by
 obtain⟨o,ho,hc,hd⟩:=id hit;obtain⟨od,hod,hcd,hdd⟩:=id hm;unfold pyNext;refine wpAny_bind (wpAny_attempt (wpAny_callSpecial?_slot (name:=Str.ofString "__next__") hit.typeIs F.slot_dict_keyiterator_next (wpAny_call_entry F.slot_dict_keyiterator_next hit.typeIs F.entry_dict_keyiterator_next ?_ (F.args_dict_keyiterator_next_1 _))));refine wpAny_bind (wpAny_pure (wpAny_bind (wpAny_bind ?_)));refine wpAny_bind (wpAny_typeNameOfWhole_keyiter hit.typeIs (wpAny_pure ?_));refine wpAny_bind (wpAny_fieldsOf ho hd ?_);have hown:Builtin.Dict_items.ownsTuple "dict_keyiterator"=false:=by decide
 simp only[hown,Bool.false_eq_true,if_false];show wpAny _ _ (if (Value.ref d == Value.none)=true then _ else _) _ _ s;rw[if_neg (show ¬((Value.ref d == Value.none)=true) from Bool.false_ne_true)];refine wpAny_bind (wpAny_pure (wpAny_bind (wpAny_dictEntries hod hdd ?_)));rw[if_neg (by simp)];refine wpAny_bind (wpAny_pure (wpAny_bind (wpAny_dictEpoch hod hdd ?_)));rw[if_neg (by simp)];refine wpAny_pure ?_;simp only[show ¬((i:Int)<0) from by omega,if_false,Int.toNat_natCast,Array.getElem?_eq_getElem hlt];refine wpAny_bind (wpAny_bind (wpAny_typeNameOfWhole_keyiter hit.typeIs (wpAny_pure ?_)));refine wpAny_bind (wpAny_isOneOf_keyiter hit.typeIs ?_);show wpAny _ _ (setField (.ref it) 1 (rawInt ((i:Int)+1)) >>= _) _ _ s;refine wpAny_bind (wpAny_setField ho hd (by simp) ?_);have hit':(s.heap.update it (Obj.mapFields (·.setIfInBounds 1 (rawInt ((i:Int)+1))))).IsKeyIter it d (i+1) es.size ep:=
  ⟨_,Heap.get?_update_self _ ho (Obj.isFreed_of_fields (Obj.data_mapFields hd _)),(Obj.cls_mapFields ..).trans hc,by rw[Obj.data_mapFields hd];simp[rawInt]⟩
 refine wpAny_bind (wpAny_holding ?_);refine wpAny_bind (wpAny_isOneOf_keyiter (s:={ s with heap:=s.heap.update it (Obj.mapFields (·.setIfInBounds 1 (rawInt ((i:Int)+1)))) }) hit'.typeIs ?_);show wpAny _ _ (pure es[i].key) _ _ _;exact wpAny_pure (wpAny_pure ⟨_,rfl,wpAny_pure (hQ _ hit' (Heap.SameBut.update ..))⟩)
theorem z8t{it d:Addr}{ep:Nat}{es:Array DictEntry}{Q:Option Value->Shared->Prop}(hh:A.handled=none)(hit:s.heap.IsKeyIter it d es.size es.size ep)(hm:DictIs s.heap d es ep)
  (hQ:∀h',Heap.ExtBut it s.heap h'->Q none { s with heap:=h' }):wpAny (model prog w) A (pyNext (.ref it)) Q E s:=by
 obtain⟨o,ho,hc,hd⟩:=id hit;obtain⟨od,hod,hcd,hdd⟩:=id hm;unfold pyNext;refine wpAny_bind (wpAny_attempt (wpAny_callSpecial?_slot (name:=Str.ofString "__next__") hit.typeIs F.slot_dict_keyiterator_next (wpAny_call_entry F.slot_dict_keyiterator_next hit.typeIs F.entry_dict_keyiterator_next ?_ (F.args_dict_keyiterator_next_1 _))));refine wpAny_bind (wpAny_pure (wpAny_bind (wpAny_bind ?_)));refine wpAny_bind (wpAny_typeNameOfWhole_keyiter hit.typeIs (wpAny_pure ?_));refine wpAny_bind (wpAny_fieldsOf ho hd ?_);have hown:Builtin.Dict_items.ownsTuple "dict_keyiterator"=false:=by decide
 simp only[hown,Bool.false_eq_true,if_false];show wpAny _ _ (if (Value.ref d == Value.none)=true then _ else _) _ _ s;rw[if_neg (show ¬((Value.ref d == Value.none)=true) from Bool.false_ne_true)];refine wpAny_bind (wpAny_pure (wpAny_bind (wpAny_dictEntries hod hdd ?_)));rw[if_neg (by simp)];refine wpAny_bind (wpAny_pure (wpAny_bind (wpAny_dictEpoch hod hdd ?_)));rw[if_neg (by simp)];refine wpAny_pure ?_;simp only[show ¬((es.size:Int)<0) from by omega,if_false,Int.toNat_natCast,Array.getElem?_eq_none (Nat.le_refl es.size)];refine wpAny_bind (wpAny_bind (wpAny_typeNameOfWhole_keyiter hit.typeIs (wpAny_pure ?_)));show wpAny _ _ (setField (.ref it) 0 .none >>= _) _ _ s;refine wpAny_bind (wpAny_setField ho hd (by simp) ?_);show wpAny _ _ (newExc (.type "StopIteration") [] >>= _) _ _ _;refine wpAny_bind ?_;simp only[newExc,newTuple];refine wpAny_bind (wpAny_newObj_type ?_ (by size_fits));refine wpAny_bind (m:=firstArgMember _ _) (wpAny_of_eq (a:=Value.none) (by first | rfl | (simp only[firstArgMember];rfl)) ?_);refine wpAny_newObj_type ?_ (by size_fits);simp only[raiseNew];refine wpAny_bind (wpAny_handled ?_);rw[show A.in1.handled=none from hh];refine wpAny_bind (wpAny_pure (wpAny_throw ?_));refine wpAny_bind (wpAny_isInstance (T:="StopIteration") (b:=true) ⟨_,Heap.get?_push_size _ rfl,rfl⟩ isSubtype_stop ?_);exact wpAny_pure (hQ _ (((Heap.SameBut.update ..).extBut.push _).push _))
theorem zCF(hh:A.handled=none)(I d:Addr)(hne:d≠I){ep:Nat}{es:Array DictEntry}:
  PySem.Walks prog w A I [I,d] [I] es.size (fun i v=>(es[i]?.map (·.key))=some v) (fun i h=>h.IsKeyIter I d i es.size ep/\DictIs h d es ep) where
 sub:=fun b hb=>by simp at hb;simp[hb]
 frame:=fun _ _ _ st hk=>⟨st.1.at fun o e=>hk I (by simp) o e,st.2.at fun o e=>hk d (by simp) o e⟩
 item:=fun i s Q E hi st hQ=>by
  refine z5h st.1 st.2 hi fun h' hit' hs'=>?_;exact hQ _ h' s.toks (by rw[Array.getElem?_eq_getElem hi];rfl) ⟨hit',st.2.at fun o e=>hs'.extBut d o hne e⟩ fun b o hb e=>hs'.extBut b o (fun h=>hb (by simp[h])) e
 done:=fun s Q E st hQ=>z8t hh st.1 st.2 fun h' he'=>hQ h' s.toks fun b o hb e=>he' b o (fun h=>hb (by simp[h])) e
 self:=fun _ _ _ _ st hQ=>wpAny_pyIter_keyiter st.1 hQ
theorem zBn{d:Addr}{es:Array DictEntry}{ep:Nat}{Q:Value->Shared->Prop}(hd:(d == sysModules)=false)(hm:DictIs s.heap d es ep)
  (hQ:Q (.ref s.heap.objs.size) { s with heap:=s.heap.push { cls:=.type "dict_keyiterator",data:=.fields #[.ref d,.int 0 0,.int (es.size:Int) 0,.int (ep:Int) 0] } }):wpAny (model prog w) A (pyIter (.ref d)) Q E s:=by
 obtain⟨o,ho,hc,hdat⟩:=id hm;have hT:=hm.typeIs;refine wpAny_pyIter_slot hT F.slot_dict_iter (wpAny_call_entry F.slot_dict_iter hT F.entry_dict_iter ?_ (F.args_dict_iter_1 _));unfold Builtin.«dict.__iter__»;refine wpAny_bind ?_;unfold Builtin.Dict.dictSlotNone;refine wpAny_bind (wpAny_notOrdered_dict hT ?_);show wpAny _ _ (pure (Value.ref d)) _ _ s;refine wpAny_pure ?_;show wpAny _ _ (Builtin.Dict.showsAll d >>= _) _ _ s;unfold Builtin.Dict.showsAll;rw[if_neg (by rw[hd];exact Bool.false_ne_true)];refine wpAny_bind (wpAny_pure (wpAny_bind (wpAny_dictEntries ho hdat (wpAny_bind (wpAny_dictEpoch ho hdat ?_)))));exact wpAny_bind (wpAny_newObj_type (wpAny_pure ⟨_,rfl,"dict_keyiterator",_,⟨_,Heap.get?_push_size _ rfl,rfl⟩,F.slot_dict_keyiterator_next.lookup,hQ⟩))
end
theorem zBr:typeLookup (.type "dict") "__len__"=pure (some (.builtin "dict.__len__")):=by rw[typeLookup_type,builtinLookup_eq_fast];kernel_rfl
section
variable{prog:Program}{w:World}{A:Around}{E:Value->Shared->Prop}{s:Shared}
theorem z85{S:Addr}{ep:Nat}{es:Array DictEntry}{Q:List Value->Shared->Prop}(hh:A.handled=none)(hsys:(S == sysModules)=false)(hz:es.size<=sizeLine)(hS:DictIs s.heap S es ep)
  (hQ:∀h' tk,(∀b o,s.heap.get? b=some o->h'.get? b=some o)->Q (es.toList.map (·.key)) { s with heap:=h',toks:=tk }) :
  wpAny (model prog w) A (collect (.ref S)) Q E s:=by
 obtain⟨o,ho,hex,hd⟩:=id hS;have hSlt:=Heap.lt_size ho;unfold collect;refine wpAny_bind (wpAny_runValue (codeAny_builtin F.entry_proto_collect ?_));rw[Around.under_plainId F.plain_proto_collect _];show wpAny _ A.in1 (newList [] >>= fun l=>again (.builtin "list.__iadd__" ⟨[l,.ref S],[]⟩)) _ _ s;refine wpAny_bind (wpAny_newObj_type ?_);refine wpAny_pure ⟨plainId_quiet F.plain_list_iadd _,codeAny_builtin F.entry_list_iadd ?_⟩;rw[Around.under_plainId F.plain_list_iadd _];show wpAny _ A.in1 (Builtin.List.listExtendWith (.ref s.heap.objs.size) (.ref S) (.ref s.heap.objs.size)) _ _ _;unfold Builtin.List.listExtendWith;generalize hH:s.heap.push { cls:=.type "list",data:=.seq ([]:List Value).toArray }=H;have hHs:H.objs.size=s.heap.objs.size+1:=by rw[<-hH,Heap.size_push]
 have keep:∀b ob,s.heap.get? b=some ob->H.get? b=some ob:=fun b ob e=>hH▸Heap.get?_push_of_some _ e;have hS1:DictIs H S es ep:=hS.at fun ob e=>keep S ob e;have hT:Shared.TypeIs { s with heap:=H } (.ref S) "dict":=⟨o,keep _ _ ho,hex.1⟩;refine wpAny_bind (wpAny_typeOf (T:="dict") (v:=.ref S) hT ?_);have hSI:s.heap.objs.size≠S:=Nat.ne_of_gt hSlt;have h1:Builtin.List.listSameRef (.ref s.heap.objs.size) (.ref S)=false:=by simp[Builtin.List.listSameRef,hSI]
 have h2:(Value.type "dict" == Value.type "list")=false:=by decide
 have h3:(Value.type "dict" == Value.type "tuple")=false:=by decide
 simp only[h1,h2,h3,Bool.or_false,Bool.false_eq_true,if_false];refine wpAny_bind (zBn (s:={ s with heap:=H }) hsys hS1 ?_);have hT2:Shared.TypeIs { s with heap:=H.push { cls:=.type "dict_keyiterator",data:=.fields #[.ref S,.int 0 0,.int (es.size:Int) 0,.int (ep:Int) 0] } } (.ref S) "dict":=⟨o,Heap.get?_push_of_some _ (keep _ _ ho),hex.1⟩;refine wpAny_bind (wpAny_holding ?_);unfold Builtin.List.listLengthHint;refine wpAny_bind (wpAny_specialOf (T:="dict") (v:=.ref S) hT2 zBr ?_)
 wp_delta
 refine wpAny_bind (wpAny_isInstance (T:="dict") (v:=.ref S) (b:=true) hT2 (by rw[isSubtype_type];kernel_rfl) ?_);show wpAny _ A.in1 (typeOf (Value.ref S) >>= _) _ _ _;refine wpAny_bind (wpAny_typeOf (T:="dict") (v:=.ref S) hT2 ?_);refine wpAny_pure ?_;rw[if_pos (by decide)];have hSf:s.heap.objs.size∉[H.objs.size,S]:=by
  rw[hHs];simp only[List.mem_cons,List.mem_singleton,List.not_mem_nil,or_false,not_or];exact⟨Nat.ne_of_lt (Nat.lt_succ_self _),hSI⟩
 have hL:(H.push { cls:=.type "dict_keyiterator",data:=.fields #[.ref S,.int 0 0,.int (es.size:Int) 0,.int (ep:Int) 0] }).get? s.heap.objs.size=some { cls:=.type "list",data:=.seq ([]:List Value).toArray }:=Heap.get?_push_of_some _ (hH▸Heap.get?_push_size _ rfl);have hneI:S≠H.objs.size:=by rw[hHs];exact Nat.ne_of_lt (Nat.lt_succ_of_lt hSlt)
 refine wpAny_bind (wpAny_rule ?_);unfold Builtin.List.listTouch;refine wpAny_bind (wpAny_bind (listUpdate_at hL rfl ?_ (by decide) (by decide)));have g1:=Heap.get?_update_self (Obj.mapSeq (·.push .none)) hL rfl;refine listUpdate_at g1 rfl ?_ (by decide) (by decide);have g2:=Heap.get?_update_self (Obj.mapSeq (·.pop)) g1 rfl;have sb:=(Heap.SameBut.update (H.push { cls:=.type "dict_keyiterator",data:=.fields #[.ref S,.int 0 0,.int (es.size:Int) 0,.int (ep:Int) 0] }) s.heap.objs.size (Obj.mapSeq (·.push .none))).trans (Heap.SameBut.update _ s.heap.objs.size (Obj.mapSeq (·.pop)));generalize hH2:((H.push { cls:=.type "dict_keyiterator",data:=.fields #[.ref S,.int 0 0,.int (es.size:Int) 0,.int (ep:Int) 0] }).update s.heap.objs.size (Obj.mapSeq (·.push .none))).update s.heap.objs.size (Obj.mapSeq (·.pop))=H2 at g2 sb |-;have hIT:H2.get? H.objs.size=some { cls:=.type "dict_keyiterator",data:=.fields #[.ref S,.int 0 0,.int (es.size:Int) 0,.int (ep:Int) 0] }:=sb.extBut _ _ (by rw[hHs];exact Nat.ne_of_gt (Nat.lt_succ_self _)) (Heap.get?_push_size _ rfl);have hI0:H2.IsKeyIter H.objs.size S 0 es.size ep:=⟨_,hIT,rfl,rfl⟩;have hS2:DictIs H2 S es ep:=hS1.at fun ob e=>sb.extBut _ _ (Ne.symm hSI) (Heap.get?_push_of_some _ e);refine wpAny_pure ⟨plainId_quiet F.plain_extend_loop _,codeAny_extend_loopS (zCF (A:=A.in1) (ep:=ep) (es:=es) hh H.objs.size S hneI).toS hz _ hSf _ es.size 0 _ _ _ rfl (Nat.zero_le _) ⟨hI0,hS2⟩ g2 (ItemsOf.nil _) fun s' acc' c' hmv hS' hacc=>?_⟩;show wpAny _ A (load s.heap.objs.size >>= _) _ _ s';refine wpAny_bind (wpAny_load hS' ?_);obtain⟨h',g',d',tk',os'⟩:=s';have eg:g'=s.gens:=hmv.gens;have ed:d'=s.drawn:=hmv.drawn;have eo:os'=s.os:=hmv.os;subst eg;subst ed;subst eo;have eacc:acc'.toList=es.toList.map (·.key):=by
  refine List.ext_getElem? fun i=>?_;rw[List.getElem?_map,Array.getElem?_toList,Array.getElem?_toList];cases e:acc'[i]? with
  | some v=>exact(hacc.2 i v e).symm
  | none=>
   have h1:=Array.getElem?_eq_none_iff.mp e;rw[hacc.1]at h1;rw[Array.getElem?_eq_none (by omega)];rfl
 refine wpAny_pure ?_;rw[eacc];refine hQ h' tk' fun b ob e=>hmv.heap b ob (fun hb=>?_) (sb.extBut _ _ (Nat.ne_of_lt (Heap.lt_size e)) (Heap.get?_push_of_some _ (keep _ _ e)));have hlt:=Heap.lt_size e;rcases List.mem_cons.mp hb with h | h
 ·exact absurd hlt (h▸Nat.lt_irrefl _)
 ·rw[List.mem_singleton.mp h,hHs]at hlt;exact absurd hlt (Nat.not_lt.mpr (Nat.le_succ _))
end
variable{X:Cx}
theorem z2c{S:Addr->Prop}{H:Hp}:∀(k:List Key),DatsS S H (k.map kD) (k.map kV)
 | []=>.nil
 | .inl i::k=>.cons di (z2c k)
 | .inr x::k=>.cons (by show DatS S H (.str x) (.str x);simp only[DatS]) (z2c k)
theorem z1g{S:Addr->Prop}{H:Hp}:∀{kvs:List (PyData×PyData)} {ks:List (PyData×V)},DctS S H kvs ks->kvs.map (·.1)=ks.map (·.1)
 | [],ks,h=>by simp only[DctS]at h;rw[h];rfl
 | (k,d)::r,ks,h=>by
  simp only[DctS]at h;obtain⟨x,q,rfl,_,h2⟩:=h;rw[List.map_cons,List.map_cons,z1g h2]
theorem z5i{pins:List (Addr×Obj)}{s:Shared}{σ:L2.St}{H:Hp}{S:Addr->Prop}{a:Addr}{kvs:List (PyData×PyData)}{ks:List (PyData×V)}(I:L2.Inv X pins σ H s)(h:DctAt H a ks)(hd:DctS S H kvs ks):
  ∃(es:Array DictEntry) (ep:Nat) (xs:List V),DictIs s.heap a es ep/\(a == sysModules)=false/\es.size<=sizeLine/\Vals xs (es.toList.map (·.key))/\DatsS S H (kvs.map (·.1)) xs:=by
 rw[z1g hd];rcases h with ⟨l,h,rfl⟩ | ⟨l,h,rfl⟩
 ·obtain⟨z,y,vs,kv,o,es,ep,h1,h2,h3,h4,h5,_⟩:=z3y I.hok h;have gen:∀{l:List (Key×V)} {vs:List (Key×Value)} {es:List DictEntry},KV l vs->Pairs (zT X.prog X.w) es vs->∃xs,Vals xs (es.map (·.key))/\DatsS S H ((l.map fun kv=>(kD kv.1,kv.2)).map (·.1)) xs/\es.length=l.length:=by
   intro l vs es k1 k2
   induction k1 generalizing es with
   | nil=>cases k2;exact⟨[],.nil,.nil,rfl⟩
   | @cons p q ps qs hq t ih=>
    cases k2 with
    | cons e1 e2 e3=>
     obtain⟨xs,v1,v2,v3⟩:=ih e3;rw[<-hq.1]at e1;obtain⟨k,v⟩:=p;refine⟨kV k::xs,.cons ?_ v1,.cons ?_ v2,by simp[v3]⟩
     ·cases k with
      | inl i=>exact Value.isInt_shape e1
      | inr x=>exact Value.isStrOf_shape e1
     ·cases k with
      | inl i=>exact di
      | inr x=>show DatS S H (.str x) (.str x);simp only[DatS]
  obtain⟨xs,v1,v2,v3⟩:=gen kv h5;exact⟨es,ep,xs,⟨o,h1,h2,h3⟩,y,by rw[<-Array.length_toList,v3];exact z,v1,v2⟩
 ·obtain⟨z,y,vs,kt,o,es,ep,h1,h2,h3,h4,_⟩:=z4Y I.hok h;have gen:∀{l:List (List Key×V)} {vs:List (List Key×Addr×Value)},KT H l vs->∃xs,Vals xs ((vs.map (entryOfKey (tupleKind (zT X.prog X.w)))).map (·.key))/\DatsS S H ((l.map fun kv=>(kT kv.1,kv.2)).map (·.1)) xs/\vs.length=l.length:=by
   intro l vs k1
   induction k1 with
   | nil=>exact⟨[],.nil,.nil,rfl⟩
   | @cons p q ps qs hq t ih=>
    obtain⟨xs,v1,v2,v3⟩:=ih;refine⟨.ref q.2.1::xs,.cons rfl v1,.cons ?_ v2,by simp[v3]⟩;show DatS S H (kT p.1) (.ref q.2.1);unfold kT;simp only[DatS];exact⟨_,_,rfl,hq.2.1,z2c p.1⟩
  obtain⟨xs,v1,v2,v3⟩:=gen kt;refine⟨es,ep,xs,⟨o,h1,h2,h3⟩,y,?_,by rw[h4];exact v1,v2⟩;rw[<-Array.length_toList,h4,List.length_map,v3];exact z
theorem z4F{pins:List (Addr×Obj)}{s:Shared}{σ:L2.St}{H:Hp}{Q:VK}{S:Addr->Prop}{a:Addr}{kvs:List (PyData×PyData)}{ks:List (PyData×V)}(hc:X.calm=true)(I:L2.Inv X pins σ H s)(hS:∀a,S a->H a≠none)(h:DctAt H a ks)(hd:DctS S H kvs ks)(hs:y6 (kvs.map (·.1))=true)
  (q:∀v H',Same H H'->DatS S H' (.list (xI keyI (kvs.map (·.1)))) v->Q v H'):wpAny (model X.prog X.w) X.A (call (.builtin "sorted") [.ref a]) (EP X pins σ Q) X.xe s:=by
 obtain⟨es,ep,xs,h1,h2,h3,rv,dv⟩:=z5i (S:=S) I h hd;exact xP I hS dv rv hs (fun Q' hq'=>z85 (A:=X.A.in1) (I.ok.hd hc) h2 h3 h1 hq') q
noncomputable def yg:List PyData->Option PyData
 | [.dict kvs]=>if y6 (kvs.map (·.1))=true then some (.list (xI keyI (kvs.map (·.1))))else none
 | ds=>wG ds
theorem z0S(hc:X.calm=true)(hu:X.A.units+64<cLine):CallR X (.builtin "sorted") (rDn yg):=by
 intro pins s σ H xs us Q I r h;obtain⟨S,ds,rr,hS,h1,hf,q⟩:=h;by_cases hk:∃kvs,ds=[.dict kvs]
 ·obtain⟨kvs,rfl⟩:=hk;simp only[yg]at hf;split at hf
  next hs=>
   cases hf;obtain⟨v,rfl,r1⟩:=all1 h1;obtain⟨a,ks,rfl,g1,k1⟩:=z0J r1;obtain⟨u,rfl,ru⟩:=xf r;cases ru;exact z4F hc I hS g1 k1 hs q
  next=>cases hf
 ·have e:yg ds=wG ds:=by
   unfold yg;split
   next kvs=>exact absurd ⟨kvs,rfl⟩ hk
   next=>rfl
  rw[e]at hf;exact z5S hu pins s σ H xs us Q I r ⟨S,ds,rr,hS,h1,hf,q⟩
end L2
namespace L2
open PySem PySem.Spec PyProof.Rows
section
variable{X:Cx}
theorem Inv.freeze{pins:List (Addr×Obj)}{σ:L2.St}{H:Hp}{s:Shared}{a:Addr}{u:HO}(I:L2.Inv X pins σ H s)(e:H a=some u)(hk:uB u):∃o,s.heap.get? a=some o/\L2.Inv X pins σ (upd H a (.frz o u)) s:=by
 have ok:=I.hok a u e;have mu:Mut (some u):=by cases u<;>first | exact True.intro | exact hk
 obtain⟨o,ho⟩:∃o,s.heap.get? a=some o:=by
  cases u with
  | dK l=>obtain⟨_,_,_,_,o,_,_,q,_⟩:=ok;exact⟨_,q⟩
  | dT l=>obtain⟨_,_,_,_,o,_,_,q,_⟩:=ok;exact⟨_,q⟩
  | _=>exact hk.elim
 refine⟨o,ho,?_⟩;have nown:∀c y,H c=some (.own y)->c≠a:=fun c y r z=>by subst z;rw[e]at r;cases r;exact mu
 have ntup:∀c xs,H c=some (.tup xs)->c≠a:=fun c xs r z=>by subst z;rw[e]at r;cases r;exact mu
 have new:ObjOk X.prog X.w (upd H a (.frz o u)) s.heap a (.frz o u):=⟨ho,ok.stay (fun c v _ q=>q) (fun c r=>by rw[zI (nown c a r)];exact r) fun c xs r=>by rw[zI (ntup c xs r)];exact r⟩
 have:=I.write (t':=s.toks) (h':=s.heap) (x:=a) (e:=a) (o:=.frz o u) (by rw[e];exact mu) (.inl rfl) (fun b v _ q=>q) ⟨o,ho⟩ new;exact this
theorem Inv.thaw{pins:List (Addr×Obj)}{σ:L2.St}{H:Hp}{s:Shared}{a:Addr}{o:Obj}{u:HO}(I:L2.Inv X pins σ H s)(e:H a=some (.frz o u))(h0:∀o u,X.H₀ a≠some (.frz o u)):L2.Inv X pins σ (upd H a u) s:=by
 have ne:∀{b:Addr} {x:Option HO},H b=x->x≠some (.frz o u)->b≠a:=fun{b x} r z q=>by subst q;rw[e]at r;exact z r.symm
 have ok:=I.hok a _ e;have stay:∀{b:Addr} {w:HO},ObjOk X.prog X.w H s.heap b w->ObjOk X.prog X.w (upd H a u) s.heap b w:=fun{b w} q=>
  q.stay (fun c v _ q=>q) (fun c r=>by rw[zI (ne r (fun z=>nomatch z))];exact r) fun c xs r=>by rw[zI (ne r (fun z=>nomatch z))];exact r
 refine⟨I.ok,I.os,I.bare,⟨I.base.keep,I.base.slot,fun b w q n hx=>?_,I.base.there,fun b xs q=>?_,fun b w v q=>?_,fun b ps q=>?_⟩,I.loc,I.cell,?_,fun x c q=>?_,fun p hp=>?_,fun b w q=>?_,I.len⟩
 ·have r:=I.base.free b w q n hx;rw[zI (ne r (fun z=>nomatch z))];exact r
 ·have r:=I.base.tups b xs q;rw[zI (ne r (fun z=>nomatch z))];exact r
 ·have r:=I.base.frzs b w v q;have hb:b≠a:=fun z=>by subst z;exact h0 w v q
  rw[zI hb];exact r
 ·obtain⟨more,r⟩:=I.base.tbls b ps q;exact⟨more,by rw[zI (ne r (fun z=>nomatch z))];exact r⟩
 ·rw[zI (ne I.free (fun z=>nomatch z))];exact I.free
 ·rw[zI (ne (I.freeC x c q) (fun z=>nomatch z))];exact I.freeC x c q
 ·obtain⟨p1,p2,p3⟩:=I.pin p hp;exact⟨p1,by rw[zI (ne p2 (fun z=>nomatch z))];exact p2,p3⟩
 ·by_cases hb:b=a
  ·subst hb;rw[zG]at q;cases q;exact stay ok.2
  ·rw[zI hb]at q;exact stay (I.hok b w q)
def Thw(H:Hp)(Z:Hp->Prop)(H1:Hp):Prop:=Z H1\/∃a o u,(∀o u,H a≠some (.frz o u))/\H1 a=some (.frz o u)/\Z (upd H1 a u)
theorem Inv.thw{pins pins0:List (Addr×Obj)}{σ σ0:L2.St}{H H1:Hp}{s s0:Shared}{Z:Hp->Prop}(I0:L2.Inv X pins0 σ0 H s0)(I:L2.Inv X pins σ H1 s)(h:Thw H Z H1):∃H2,L2.Inv X pins σ H2 s/\Z H2:=by
 rcases h with h | ⟨a,o,u,hn,e,h⟩
 ·exact⟨H1,I,h⟩
 ·exact⟨_,I.thaw e fun o u z=>hn o u (I0.base.frzs a o u z),h⟩
theorem z96{e:Expr}{t:TE}(h:PE X e t):PE X e (fun σ H Q=>t σ H fun x H1=>Thw H (Q x) H1):=fun pins s σ H Q I q=>
 thn (h pins s σ H _ I q) fun v s1 ⟨x,H1,I1,r1,q1⟩=>by
  obtain⟨H2,I2,q2⟩:=Inv.thw I I1 q1;exact⟨x,H2,I2,r1,q2⟩
theorem z9q{st:Stmt}{t:TS}(h:PS X st t):PS X st (fun D σ H=>t { D with nx:=fun σ1 H1=>Thw H (D.nx σ1) H1 } σ H):=fun pins s σ H D I q=>
 thn (h pins s σ H _ I q) fun f s1 q1=>by
  cases f with
  | next=>
   obtain⟨σ1,H1,I1,q1⟩:=q1;obtain⟨H2,I2,q2⟩:=Inv.thw I I1 q1;exact⟨σ1,H2,I2,q2⟩
  | brk=>exact q1
  | cont=>exact q1
  | ret u=>exact q1
end
def Mv(H H':Hp):Prop:=(∀b xs,H b=some (.tup xs)->H' b=some (.tup xs))/\(∀b xs,H b=some (.lst xs)->H' b=some (.lst xs))/\(∀b u,uB u->Rd H b u->Rd H' b u)/\∀b φ,H b=some (.ext φ)->H' b=some (.ext φ)
theorem zBl{H:Hp}{a:Addr}{u:HO}{o:Obj}(e:H a=some u)(hd:uB u):Mv H (upd H a (.frz o u)):=by
 refine⟨fun b xs q=>?_,fun b xs q=>?_,fun b w hw q=>?_,fun b φ q=>by rw[zI (fun z=>by subst z;rw[e]at q;cases q;exact hd)];exact q⟩
 ·rw[zI (fun z=>by subst z;rw[e]at q;cases q;exact hd)];exact q
 ·rw[zI (fun z=>by subst z;rw[e]at q;cases q;exact hd)];exact q
 ·by_cases hb:b=a
  ·subst hb;rcases q with q | ⟨o',q⟩
   ·rw[e]at q;cases q;exact .inr ⟨o,zG⟩
   ·rw[e]at q;cases q;exact hd.elim
  ·rcases q with q | ⟨o',q⟩
   ·exact .inl (by rw[zI hb];exact q)
   ·exact .inr ⟨o',by rw[zI hb];exact q⟩
theorem zDC{H:Hp}{a:Addr}{u:HO}{o:Obj}(e:H a=some (.frz o u)):Mv H (upd H a u):=by
 refine⟨fun b xs q=>?_,fun b xs q=>?_,fun b w hw q=>?_,fun b φ q=>by rw[zI (fun z=>by subst z;rw[e]at q;cases q)];exact q⟩
 ·rw[zI (fun z=>by subst z;rw[e]at q;cases q)];exact q
 ·rw[zI (fun z=>by subst z;rw[e]at q;cases q)];exact q
 ·by_cases hb:b=a
  ·subst hb;rcases q with q | ⟨o',q⟩
   ·rw[e]at q;cases q;exact hw.elim
   ·rw[e]at q;cases q;exact .inl zG
  ·rcases q with q | ⟨o',q⟩
   ·exact .inl (by rw[zI hb];exact q)
   ·exact .inr ⟨o',by rw[zI hb];exact q⟩
theorem DctAt.mv{H H':Hp}{a:Addr}{ks:List (PyData×V)}(m:Mv H H')(h:DctAt H a ks):DctAt H' a ks:=by
 rcases h with ⟨l,h,e⟩ | ⟨l,h,e⟩
 ·exact .inl ⟨l,m.2.2.1 _ _ True.intro h,e⟩
 ·exact .inr ⟨l,m.2.2.1 _ _ True.intro h,e⟩
mutual
theorem DatS.mv{S:Addr->Prop}{H H':Hp}(s:Mv H H'):∀{d:PyData} {v:V},DatS S H d v->DatS S H' d v
 | .none,_,h=>by simp only[DatS]at h |-;exact h
 | .bool _,_,h=>by simp only[DatS]at h |-;exact h
 | .int _,_,h=>by simp only[DatS]at h |-;exact h
 | .str _,_,h=>by simp only[DatS]at h |-;exact h
 | .list _,_,h=>by
  simp only[DatS]at h |-;obtain⟨a,xs,e,h0,h1,h2⟩:=h;exact⟨a,xs,e,h0,s.2.1 _ _ h1,DatsS.mv s h2⟩
 | .tuple _,_,h=>by
  simp only[DatS]at h |-;obtain⟨a,xs,e,h1,h2⟩:=h;exact⟨a,xs,e,s.1 _ _ h1,DatsS.mv s h2⟩
 | .dict _,_,h=>by
  simp only[DatS]at h |-;obtain⟨a,xs,e,h0,h1,h2⟩:=h;exact⟨a,xs,e,h0,DctAt.mv s h1,DctS.mv s h2⟩
theorem DatsS.mv{S:Addr->Prop}{H H':Hp}(s:Mv H H'):∀{ds:List PyData} {xs:List V},DatsS S H ds xs->DatsS S H' ds xs
 | [],_,h=>by simp only[DatsS]at h |-;exact h
 | _::_,_,h=>by
  simp only[DatsS]at h |-;obtain⟨x,r,e,h1,h2⟩:=h;exact⟨x,r,e,DatS.mv s h1,DatsS.mv s h2⟩
theorem DctS.mv{S:Addr->Prop}{H H':Hp}(s:Mv H H'):∀{ds:List (PyData×PyData)} {xs:List (PyData×V)},DctS S H ds xs->DctS S H' ds xs
 | [],_,h=>by simp only[DctS]at h |-;exact h
 | (_,_)::_,_,h=>by
  simp only[DctS]at h |-;obtain⟨x,r,e,h1,h2⟩:=h;exact⟨x,r,e,DatS.mv s h1,DctS.mv s h2⟩
end
theorem Dat1.mv{T S:Addr->Prop}{H H':Hp}(s:Mv H H'){d:PyData}{v:V}(h:Dat1 T S H d v):Dat1 T S H' d v:=by
 cases d<;>simp only[Dat1]at h |-
 case list=>obtain⟨b,xs,e,h0,h1,h2⟩:=h;exact⟨b,xs,e,h0,s.2.1 _ _ h1,DatsS.mv s h2⟩
 case dict=>obtain⟨b,xs,e,h0,h1,h2⟩:=h;exact⟨b,xs,e,h0,h1.mv s,DctS.mv s h2⟩
 all_goals exact DatS.mv s h
theorem Dp.mv{g:Gh}{ow:Ix->Option Addr}{H H':Hp}{i:Nat}{kls:List (PyData×List PyData)}{v:V}(s:Mv H H')(h:Dp g ow H i kls v):Dp g ow H' i kls v:=by
 rcases h with ⟨a,ks,e,e0,hd,hl,hk⟩ | ⟨a,bs,e,e0,ha,hb,ek⟩
 rotate_left
 ·exact .inr ⟨a,bs,e,e0,s.2.2.2 _ _ ha,fun q hq=>s.1 _ _ (hb q hq),ek⟩
 refine .inl ⟨a,ks,e,e0,hd.mv s,hl,fun j k l ej=>?_⟩;obtain⟨b,xs,q1,q2,q3,q4⟩:=hk j k l ej;exact⟨b,xs,q1,q2,s.2.1 _ _ q3,DatsS.mv s q4⟩
noncomputable def Gh.fz(g:Gh)(a:Addr)(o:Obj)(u:HO):Gh:=⟨g.aS,g.ns,g.aT,g.S0,fun b=>if b=a then(match g.H0 a with | none=>none | some _=>some (.frz o u))else g.H0 b⟩
theorem Gh.fz_ne{g:Gh}{a b:Addr}{o:Obj}{u:HO}(h:b≠a):(g.fz a o u).H0 b=g.H0 b:=by unfold Gh.fz;exact if_neg h
theorem Gh.fz_none{g:Gh}{a:Addr}{o:Obj}{u:HO}(h:g.H0 a=none):(g.fz a o u).H0 a=none:=by
 unfold Gh.fz;show(if a=a then _ else _)=_;rw[if_pos rfl,h]
theorem Gh.fz_some{g:Gh}{a:Addr}{o:Obj}{u w:HO}(h:g.H0 a=some w):(g.fz a o u).H0 a=some (.frz o u):=by
 unfold Gh.fz;show(if a=a then _ else _)=_;rw[if_pos rfl,h]
section
variable{K:W.Frag}{g:Gh}{ow:Ix->Option Addr}{ρ:Env'}{n n':Wd}{σ:St}{H H':Hp}{a:Addr}{o:Obj}{u:HO}
theorem Frm.fz(f:Frm K g ow ρ n σ H)(e:H a=some u)(hd:uB u)(hS:¬g.S ow a):Frm K (g.fz a o u) ow ρ n σ (upd H a (.frz o u)):=by
 have m:Mv H (upd H a (.frz o u)):=zBl e hd;have hT:¬g.T a:=fun z=>hS (.inr (.inl z));have h0:∀w,g.H0 a=some w->w=u:=fun w q=>by
  have:=f.ext a w q (.inl hT);rw[e]at this;cases this;rfl
 refine⟨⟨?_,f.scr.2⟩,TwnT.updT f.twn hT (fun xs z=>by rw[e]at z;cases z;exact hd),fun b q=>?_,fun b w q k=>?_,fun i d q=>?_,fun i x q=>?_,fun i kl q=>?_,fun i b q=>?_,f.inj,f.len⟩
 ·rcases f.scr.1 with h | ⟨h1,h2⟩
  ·exact .inl h
  ·refine .inr ⟨h1,?_⟩;show SqL K (g.fz a o u).H0 g.aS _;rcases h2 with h | h
   ·have hb:g.aS≠a:=fun z=>by
     rcases h with h | ⟨ob,h⟩
     ·rw[z]at h;have:=h0 _ h;rw[<-this]at hd;exact hd
     ·rw[z]at h;have:=h0 _ h;rw[<-this]at hd;exact hd
    rcases h with h | ⟨ob,h⟩
    ·exact .inl (.inl (by rw[Gh.fz_ne hb];exact h))
    ·exact .inl (.inr ⟨ob,by rw[Gh.fz_ne hb];exact h⟩)
   ·exact .inr h
 ·by_cases hb:b=a
  ·subst hb;cases z:g.H0 b with
   | none=>exact absurd z (f.sub b q)
   | some w=>rw[Gh.fz_some z];intro z;cases z
  ·rw[Gh.fz_ne hb];exact f.sub b q
 ·by_cases hb:b=a
  ·subst hb;cases z:g.H0 b with
   | none=>rw[Gh.fz_none z]at q;cases q
   | some w'=>rw[Gh.fz_some z]at q;cases q;exact zG
  ·rw[Gh.fz_ne hb]at q;rw[zI hb];exact f.ext b w q k
 ·obtain⟨v,e1,r⟩:=f.val i d q;refine⟨v,e1,?_⟩;cases d with
  | p x=>exact DatS.mv m r
  | scr=>exact r
  | town=>exact r
  | obj=>exact r
  | fn=>exact r
  | exc b C=>exact⟨r.1,r.2.1,by rw[zI (fun z=>by have k:=r.2.2;subst z;rw[e]at k;cases k;exact hd)];exact r.2.2⟩
 ·obtain⟨b,e1,e2,r⟩:=f.own i x q;exact⟨b,e1,e2,Dat1.mv m r⟩
 ·obtain⟨v,e1,r⟩:=f.dp i kl q;exact⟨v,e1,Dp.mv m r⟩
 ·obtain⟨q1,⟨w,q2,q3⟩,q4,q5⟩:=f.owi i b q;have hb:b≠a:=fun z=>hS (.inr (.inr ⟨i,z▸q⟩));exact⟨by rw[Gh.fz_ne hb];exact q1,⟨w,by rw[zI hb];exact q2,q3⟩,q4,q5⟩
theorem zCY{T:Addr->Prop}(e:H a=some u)(hd:uB u)(hT:¬T a)(k:Kp T (upd H a (.frz o u)) H'):H' a=some (.frz o u)/\Kp T H (upd H' a u):=by
 have h1:H' a=some (.frz o u):=k _ _ zG (.inl hT);refine⟨h1,fun b w q z=>?_⟩;by_cases hb:b=a
 ·subst hb;rw[e]at q;cases q;exact zG
 ·rw[zI hb];exact k _ _ (by rw[zI hb];exact q) z
end
end L2
namespace L2
open PySem PySem.Spec PyProof.Rows
noncomputable def Itk(a:Addr)(o:Obj)(u:HO)(xs:List V):It:=
 ⟨fun i H=>H a=some (.frz o u)/\i<xs.length,fun i H x H'=>H'=H/\(i<xs.length->xs[i]?=some x),fun i H=>H a=some (.frz o u)/\xs.length<=i⟩
theorem z6t{P:Program}{w:World}{K:W.Frag}{tg:Expr}{a it:Addr}{o:Obj}{u:HO}{xs:List V}{es:Array DictEntry}{ep:Nat}(hx:o.ExactDict)(hd:o.data=.dict es ep)(rv:Vals xs (es.toList.map (·.key))):
  Turn P w K tg (Itk a o u xs) [it] it (fun i h=>h.IsKeyIter it a i es.size ep/\i<=es.size) where
 mem:=by simp
 obj:=fun i h st b hb=>by
  have e:b=it:=by simpa using hb
  subst e;obtain⟨⟨o,e,c,d⟩,_⟩:=st;exact⟨o,e,fun v z=>by rw[d]at z;cases z⟩
 keep:=fun i h h' st k=>⟨st.1.at fun o e=>k it (by simp) o e,st.2⟩
 item:=by
  intro X hP hw hK hc i pins s σ H E I hf st hg;subst hP hw hK;obtain⟨hfz,hlt⟩:=hg;have hl:xs.length=es.size:=by
   have:=rv.length;simpa using this
  have hi:i<es.size:=hl▸hlt;have ho:s.heap.get? a=some o:=(show ObjOk X.prog X.w H s.heap a (.frz o u) from I.hok a _ hfz).1;obtain⟨f0,f1,f2,f3,f4,f5⟩:=hf it (by simp);obtain⟨v,hv,ru⟩:=rv.get (i:=i) (x:=xs[i]) (List.getElem?_eq_getElem hlt);have ev:v=es[i].key:=by
   rw[List.getElem?_map,Array.getElem?_toList,Array.getElem?_eq_getElem hi]at hv;cases hv;rfl
  subst ev;refine z5h st.1 ⟨o,ho,hx,hd⟩ hi fun h' st' sb=>?_;have I1:Inv X pins σ H { s with heap:=h' }:=I.turned (t':=s.toks) (fun b o hb e=>(sb.2 b hb).trans e) f0 f1 f3 f4 f5;obtain⟨o',e,c,d⟩:=id st';exact⟨_,rfl,z7H (s:={ s with heap:=h' }) e c d (by decide) ⟨xs[i],H,I1,ru,⟨rfl,fun _=>List.getElem?_eq_getElem hlt⟩,⟨st',hi⟩,fun b hb=>(hf b hb).1⟩⟩
 done:=by
  intro X hP hw hK hc i pins s σ H E I hf st hg;subst hP hw hK;obtain⟨hfz,hge⟩:=hg;have hl:xs.length=es.size:=by
   have:=rv.length;simpa using this
  obtain⟨st,hle⟩:=st;obtain rfl:i=es.size:=Nat.le_antisymm hle (hl▸hge);have ho:s.heap.get? a=some o:=(show ObjOk X.prog X.w H s.heap a (.frz o u) from I.hok a _ hfz).1;obtain⟨f0,f1,f2,f3,f4,f5⟩:=hf it (by simp);exact z8t (I.ok.hd hc) st ⟨o,ho,hx,hd⟩ fun h' eb=>⟨rfl,I.turned (t':=s.toks) (fun b o hb e=>eb b o hb e) f0 f1 f3 f4 f5⟩
 self:=fun _ _ _ _ _ st h=>wpAny_pyIter_keyiter st.1 h
section
variable{X:Cx}{tg:Expr}
theorem z5U{l:Expr}{tl:TE}(hl:PE X l tl):PI X tg l (fun σ H R=>tl σ H fun x H1=>∃(a:Addr) (u:HO) (S:Addr->Prop) (kvs:List (PyData×PyData)) (ks:List (PyData×V)),x=.ref a/\Rd H1 a u/\uB u/\DctAt H1 a ks/\DctS S H1 kvs ks/\
  ∀o xs,DatsS S H1 (kvs.map (·.1)) xs->(H1 a=some u->R (Itk a o u xs) (upd H1 a (.frz o u)))/\(H1 a=some (.frz o u)->R (Itk a o u xs) H1)):=by
 intro pins s σ H R I h;refine thn (hl pins s σ H _ I h) fun v s1 ⟨x,H1,I1,r1,q1⟩=>?_;obtain⟨a,u,S,kvs,ks,e,hu,hdu,hk,hd,q⟩:=q1;subst e;cases r1;obtain⟨es,ep,xs,⟨o,ho,hx,hdat⟩,hsys,hz,rv,dv⟩:=z5i (S:=S) I1 hk hd;have go:∀H2,Inv X pins σ H2 s1->R (Itk a o u xs) H2->wpAny (model X.prog X.w) X.A (pyIter (.ref a)) (PIE X pins σ tg R) X.xe s1:=fun H2 I2 q2=>by
  have fp:∀b∈[s1.heap.objs.size],FpOk X pins H2 b:=fun b hb=>by
   have e:b=s1.heap.objs.size:=by simpa using hb
   subst e;exact I2.fpOk (Nat.le_refl _) (I2.hok.fresh (Nat.le_refl _))
  refine zBn hsys ⟨o,ho,hx,hdat⟩ ?_;exact⟨s1.heap.objs.size,[s1.heap.objs.size],_,_,_,rfl,I2.kept (t':=s1.toks) fun b o e=>Heap.get?_push_of_some _ e,z6t hx hdat rv,⟨⟨_,Heap.get?_push_size _ rfl,rfl,rfl⟩,Nat.zero_le _⟩,fp,q2⟩
 rcases hu with hu | ⟨o2,hu⟩
 ·obtain⟨o2,ho2,I2⟩:=Inv.freeze I1 hu hdu;rw[ho]at ho2;cases ho2;exact go _ I2 ((q o xs dv).1 hu)
 ·have ho2:s1.heap.get? a=some o2:=(show ObjOk X.prog X.w H1 s1.heap a (.frz o2 u) from I1.hok a _ hu).1;rw[ho]at ho2;cases ho2;exact go _ I1 ((q o xs dv).2 hu)
end
section
variable{K:W.Frag}{Er:Str->Hp->Prop}{X:Cx}{e a b c tg it elt:Expr}{m ma mb:Env'->Mx D}{mc mt:Env'->Mx Bool}{pos p2:Pos}
theorem z3I{tc:TT}{σ:St}{Q:VK}{g:Gh}{ow:Ix->Option Addr}{ρ:Env'}{n:Wd}{H1:Hp}{ds:List PyData}{xs:List V}{J:It}(htc:∀σ H Q,rdG RT K Er mc σ H Q->tc σ H Q)(fr:Frm K g ow ρ n σ H1)(hl:ds.length<=lim)(hd:DatsS (g.S ow) H1 ds xs)(wk:Walks g.T H1 J xs)
  (q:AftG (fun _ H2 x v=>RF g (g.S ow) H1 H2 x v) g Er H1 ((zc mc m ρ ds [] >>= fun l=>pure (PyData.list l)) n) Q):∃(n:Nat) (W:Nat->List V->Hp->Prop),W 0 [] H1/\CompW J σ tc (rdG RE K Er m) n W/\∀ys H',W n ys H'->∀D,H' D=none->Q (.ref D) (upd H' D (.lst ys)):=by
 have hlen:=hd.length;refine⟨xs.length,fun i ys H'=>∃acc n',Kp g.T H1 H'/\Twn g H' n'/\DatsS (g.S ow) H' acc ys/\AftG (fun _ H2 x v=>RF g (g.S ow) H1 H2 x v) g Er H' ((zc mc m ρ (ds.drop i) acc >>= fun l=>pure (PyData.list l)) n') Q,
  ⟨[],n,Kp.refl _ _,fr.twn,.nil,by rw[List.drop_zero];exact q.imp (fun _ _ _ z=>z) fun _ _ z=>z⟩,⟨yt (by rw[<-hlen];exact hl),fun ys H' ⟨_,_,k,_⟩=>wk.stop H' k,fun i ys H' hi ⟨_,_,k,_⟩=>wk.go i H' k hi,fun i ys H' v H'' hi ⟨acc,n',k,t,dd,q⟩ y=>?_⟩,fun ys H' ⟨acc,n',k,t,dd,q⟩ D hD=>?_⟩
 ·obtain⟨rfl,hv⟩:=wk.yld i H' v _ k y;have hv:=hv hi;have hid:i<ds.length:=by omega
  obtain⟨v',ev,rv⟩:=hd.get (List.getElem?_eq_getElem hid);rw[hv]at ev;cases ev;have rv':Rep g (g.S ow) H'' (.p ds[i]) v:=DatS.kp (k.mono Gh.ts) (fun _ z=>.inl z) rv;have f1:Frm K g ow (ρ++[some (Sl.val (.p ds[i]))]) n' (σ++[some v]) H'':=(fr.kp k t).ext1 rv';rw[List.drop_eq_getElem_cons hid]at q;simp only[zc,yV]at q;refine htc _ _ _ ⟨g,ow,_,n',f1,AftG.bind q fun tb n2 tb' H3 k3 t3 r3 c3=>?_⟩;cases r3;have q3:=c3 (R3:=fun _ H2 x v=>RF g (g.S ow) H1 H2 x v) fun _ _ _ z=>z;cases tb with
  | false=>
   refine ite_ff ⟨acc,n2,k.trans k3,t3,DatsS.kp (k3.mono Gh.ts) (fun _ z=>.inl z) dd,?_⟩;simpa using q3
  | true=>
   simp only[if_true,yV]at q3;refine ite_tt ⟨g,ow,_,n2,f1.kp k3 t3,AftG.bind q3 fun yv n4 yv' H4 k4 t4 r4 c4=>?_⟩;have q4:=c4 (R3:=fun _ H2 x v=>RF g (g.S ow) H1 H2 x v) fun _ _ _ z=>z;obtain⟨z,ez,q5⟩:=yn q4;obtain⟨z',rfl,ez2⟩:=zf ez;cases ez2;exact⟨acc++[z],n4,(k.trans k3).trans k4,t4,(DatsS.kp ((k3.trans k4).mono Gh.ts) (fun _ z=>.inl z) dd).append (.cons r4 .nil),q5⟩
 ·rw[List.drop_of_length_le (by omega)]at q;have q:AftG (fun _ H2 x v=>RF g (g.S ow) H1 H2 x v) g Er H' (.ok (.list acc) n') Q:=q;refine q (.ref D) _ (Same.new hD).kp ((Same.new hD).twn t) ⟨D,rfl,xZ k t hD,Pl.upd,?_⟩;simp only[Dat1];exact⟨D,ys,rfl,id,zG,DatsS.kp (Kp.of (Same.new hD)) (fun b z=>z.elim .inl fun e=>.inr (e▸hD)) dd⟩
noncomputable def z7h:PyData->Option (List PyData)
 | .dict kvs=>if kvs.length<=lim then some (kvs.map (·.1))else none
 | _=>none
noncomputable def Mx.sure{α:Type}(m:Mx α):Mx α:=fun n=>match m n with
 | .ok a n'=>.ok a n'
 | _=>.bad
noncomputable def yr(mk:Env'->Mx D)(mc:Env'->Mx Bool)(me:Env'->Mx D):Env'->Mx PyData:=fun ρ=>mk ρ >>= fun d=>Mx.opt (onP z7h d) >>= fun ds=>(zc mc me ρ ds []).sure >>= fun l=>pure (.list l)
theorem z1Q{S:Addr->Prop}{H:Hp}{a:Addr}{o:Obj}{u:HO}{xs:List V}(h:H a=some (.frz o u))(hS:¬S a):Walks S H (Itk a o u xs) xs:=
 ⟨fun i H' k hi=>⟨k _ _ h (.inl hS),hi⟩,fun i H' x H'' k y=>y,fun H' k=>⟨k _ _ h (.inl hS),Nat.le_refl _⟩⟩
noncomputable abbrev piK(K:W.Frag)(Er:Str->Hp->Prop)(mk:Env'->Mx D):TI:=fun σ H R=>rdG RE K Er mk σ H fun x H1=>∃(a:Addr) (u:HO) (S:Addr->Prop) (kvs:List (PyData×PyData)) (ks:List (PyData×V)),x=.ref a/\Rd H1 a u/\uB u/\DctAt H1 a ks/\DctS S H1 kvs ks/\
  ∀o xs,DatsS S H1 (kvs.map (·.1)) xs->(H1 a=some u->R (Itk a o u xs) (upd H1 a (.frz o u)))/\(H1 a=some (.frz o u)->R (Itk a o u xs) H1)
theorem z1q{mk:Env'->Mx D}{tc:TT}{σ:St}{H:Hp}{Q:VK}(htc:∀σ H Q,rdG RT K Er mc σ H Q->tc σ H Q)(h:rdG RF K Er (yr mk mc m) σ H Q):z51 (piK K Er mk) tc (rdG RE K Er m) σ H (fun x H1=>Thw H (Q x) H1):=by
 obtain⟨g,ow,ρ,n,fr0,q0⟩:=h;refine⟨g,ow,ρ,n,fr0,?_⟩;refine AftG.bind q0 fun d n1 v H1 k01 t1 r c1=>?_;have q:=c1 (R3:=RF g (g.S ow)) fun H2 b u r=>ww _ _ _ _ _ _ _ _ k01 t1 r;have fr:=fr0.kp k01 t1;obtain⟨ds,e,q2⟩:=yn q;obtain⟨x,rfl,e1⟩:=zf e;cases x<;>simp only[z7h]at e1<;>try (cases e1;done)
 rename_i kvs
 split at e1
 next hl=>
  cases e1;obtain⟨a,ks,rfl,hn,h1,h2⟩:=(show ∃a ks,v=.ref a/\¬(g.S ow) a/\DctAt H1 a ks/\DctS (g.S ow) H1 kvs ks by simpa only[Rep,DatS]using r);have hT:¬g.T a:=fun z=>hn (.inr (.inl z));obtain⟨u,hu,hdu⟩:∃u,Rd H1 a u/\uB u:=by
   rcases h1 with ⟨l,h,_⟩ | ⟨l,h,_⟩
   ·exact⟨_,h,True.intro⟩
   ·exact⟨_,h,True.intro⟩
  have hl':(kvs.map (·.1)).length<=lim:=by rw[List.length_map];exact hl
  have q3:∀l n2,zc mc m ρ (kvs.map (·.1)) [] n1=.ok l n2->∀v H',Kp g.T H1 H'->Twn g H' n2->RF g (g.S ow) H1 H' (.list l) v->Q v H':=fun l n2 ez=>by
   have q2:AftG (RF g (g.S ow)) g Er H1 (((zc mc m ρ (kvs.map (·.1)) []).sure >>= fun l=>pure (PyData.list l)) n1) Q:=q2;rw[Mx.bind_def,show(zc mc m ρ (kvs.map (·.1)) []).sure n1=.ok l n2 by unfold Mx.sure;rw[ez]]at q2;exact q2
  have q4:∃l n2,zc mc m ρ (kvs.map (·.1)) [] n1=.ok l n2:=by
   have q2:AftG (RF g (g.S ow)) g Er H1 (((zc mc m ρ (kvs.map (·.1)) []).sure >>= fun l=>pure (PyData.list l)) n1) Q:=q2;rw[Mx.bind_def]at q2;unfold Mx.sure at q2;cases ez:zc mc m ρ (kvs.map (·.1)) [] n1 with
   | ok l n2=>exact⟨l,n2,rfl⟩
   | err c n2=>rw[ez]at q2;exact q2.elim
   | bad=>rw[ez]at q2;exact q2.elim
  obtain⟨l,n2,ez⟩:=q4;have q5:=q3 l n2 ez;have run:((zc mc m ρ (kvs.map (·.1)) [] >>= fun l=>pure (PyData.list l)) n1)=.ok (.list l) n2:=by rw[Mx.bind_def,ez];rfl
  refine⟨a,u,g.S ow,kvs,ks,rfl,hu,hdu,h1,h2,fun o xs dv=>⟨fun hp=>?_,fun hf=>?_⟩⟩
  ·have f2:=fr.fz (o:=o) hp hdu hn;refine z3I (m:=m) (Q:=fun x H1=>Thw H (Q x) H1) (g:=g.fz a o u) htc f2 hl' (DatsS.mv (zBl hp hdu) dv) (z1Q zG hT) ?_;rw[run];intro v H' k t r;obtain⟨e1,k1⟩:=zCY hp hdu hT (T:=g.T) k;have h0:∀o u,H a≠some (.frz o u):=fun o' u' z=>by
    have:=k01 _ _ z (.inl hT);rw[hp]at this;cases this;exact hdu
   refine .inr ⟨a,o,u,h0,e1,q5 v _ k1 (TwnT.updT t hT (fun xs z=>by rw[e1]at z;cases z)) ?_⟩;obtain⟨D,rfl,hD,⟨w,hw,hnf⟩,dd⟩:=r;have hDa:D≠a:=fun z=>by subst z;rw[zG]at hD;cases hD
   exact⟨D,rfl,by rw[zI hDa]at hD;exact hD,⟨w,by rw[zI hDa];exact hw,hnf⟩,Dat1.mv (zDC e1) dd⟩
  ·refine z3I (m:=m) (Q:=fun x H1=>Thw H (Q x) H1) htc fr hl' dv (z1Q hf hT) ?_;rw[run];intro v H' k t r;exact .inl (q5 v H' k t r)
 next=>cases e1
theorem z3p{mk:Env'->Mx D}{i:Nat}{N N':List Str}{sc scope:Scope}{x y:Str}{ifs:List Expr}{px py spos:Pos}{tc:TT}(hc:X.calm=true)(hN:X.N=N)(hsc:X.env.scope=sc)(h:u9 N sc scope x N'=true)(hnd:X.N.Nodup)(hy:X.N[i]?=some y)(hl:X.env.scope.names.lookup y=some .local)
  (htc:∀σ H Q,rdG RT K Er mc σ H Q->tc σ H Q) (hi:DE K Er X it mk) (hf:∀C s H fp,PF (zY X scope N' C s H fp) ifs tc) (he:∀C s H fp,DE K Er (zY X scope N' C s H fp) elt m)
  (hsw:swapsWith (.ListComp elt [⟨.Name x px,it,ifs,0⟩] scope pos) (some (.Name y py)) spos.line X.env=pure true:=by rfl)
  (hs:∀x,foldedSetIterable it X.env x=pure x:=by intro _;rfl):DS K Er X (.Assign [.Name y py] (.ListComp elt [⟨.Name x px,it,ifs,0⟩] scope pos) spos) (sSet i (mP (yr mk mc m))):=
 (z9q (z2z hc hN hsc h hnd hy hl (z5U hi) hf he hsw hs)).imp fun σ H E h=>z1q (Q:=fun v H1=>E.nx (σ.set i (some v)) H1) htc (by
  have e:sSet i (mP (yr mk mc m))=fun ρ=>yr mk mc m ρ >>= fun z=>pure (.nx (ρ.set i (some (Sl.val (.p z))))):=by
   funext ρ;unfold sSet mP;rw[yV];rfl
  rw[e]at h;refine rs1 h fun g ow ρ n n1 z v H1 f k f1 r q=>?_;obtain⟨p,rfl,hp,_,d⟩:=r;have hn:¬g.S ow p:=fun z=>f.dom p z hp;refine q _ _ H1 (f1.setVal ?_) Stp.put;show DatS _ _ z _;cases z<;>simp only[Dat1,DatS]at d |-
  case list=>obtain⟨b,xs,e,_,h1,h2⟩:=d;cases e;exact⟨p,xs,rfl,hn,h1,DatsS.kp (Kp.refl _ _) (fun _ z=>.inl (.inl z)) h2⟩
  case dict=>obtain⟨b,xs,e,_,h1,h2⟩:=d;cases e;exact⟨p,xs,rfl,hn,h1,DctS.kp (Kp.refl _ _) (fun _ z=>.inl (.inl z)) h2⟩
  case tuple=>obtain⟨b,xs,e,h1,h2⟩:=d;exact⟨b,xs,e,h1,DatsS.kp (Kp.refl _ _) (fun _ z=>.inl (.inl z)) h2⟩
  all_goals cases d)
end
section
variable{K:W.Frag}{Er:Str->Hp->Prop}{X:Cx}{e a' b c tg it elt:Expr}{m ma mb:Env'->Mx D}{mc mt:Env'->Mx Bool}{sa:Env'->Mx Out}{pos p2:Pos}{sts:List Stmt}
variable{g:Gh}{ow ow':Ix->Option Addr}{ρ ρ':Env'}{n n':Wd}{σ σ':St}{H H' H1:Hp}{a:Addr}{o:Obj}{u:HO}
end
end L2
namespace PySem
namespace F
theorem lk_list_keys:typeLookup (.type "list") "keys"=pure none:=by rw[typeLookup_type,builtinLookup_eq_fast];kernel_rfl
theorem lk_list_getattr:typeLookup (.type "list") "__getattr__"=pure none:=by rw[typeLookup_type,builtinLookup_eq_fast];kernel_rfl
theorem sub_attrErr:isSubtype (.type "AttributeError") (.type "AttributeError")=pure true:=by rw[isSubtype_type];kernel_rfl
theorem entry_dict_update_loop:entryFor table "dict.update.loop"=some Builtin.«dict.update.loop»:=entryFor_of_tree (by kernel_rfl)
theorem plain_dict_update_loop:plainId "dict.update.loop"=true:=by decide +kernel
end F
section
variable{prog:Program}{w:World}{A:Around}{E:Value->Shared->Prop}{h:Heap}{g:Array GenState}{d:Drawn}{t:Nat}{os:OsState}{a:Addr}{o:Obj}
theorem z4X{α:Type}{name msg:Str}{Q:α->Shared->Prop}(hh:A.handled=none)(hm:msg.length<=sizeLine)(hq:∀e h' t',(∃oe,h'.get? e=some oe/\oe.cls=.type "AttributeError")->(∀b ob,h.get? b=some ob->h'.get? b=some ob)->E (.ref e) ⟨h',g,d,t',os⟩):
  wpAny (model prog w) A (raiseAttrError (.ref a) name msg) Q E ⟨h,g,d,t,os⟩:=by
 have hs:=F.sub_attrErr;have hfa:∀v,firstArgMember (.type "AttributeError") [v]=pure .none:=fun v=>by unfold firstArgMember;kernel_rfl
 unfold raiseAttrError newExc;refine wpAny_bind ?_;unfold mkStr;rw[if_neg (by omega)]
 repeat (any_goals (first | assumption | wp_step))
 refine wpAny_raiseNew_none hh (hq _ _ _ ⟨_,Heap.get?_update_self _ (Heap.get?_push_size _ rfl) rfl,rfl⟩ fun b ob e=>?_);have hb:=Heap.lt_size e;have hne:(h.push { cls:=Value.type "tuple",data:=Data.seq #[Value.str msg t] }).objs.size≠b:=by rw[Heap.size_push];exact Nat.ne_of_gt (Nat.lt_succ_of_lt hb)
 rw[Heap.get?_update_other _ _ hne];exact Heap.get?_push_of_some _ (Heap.get?_push_of_some _ e)
theorem z9V:(Str.ofString (toString "'"++toString ((Manifest.find? "list").elim "list" fun x=>x.tpName)++toString "' object has no attribute '")++Str.ofString "keys"++Str.ofString "'").length<=sizeLine:=by
 rw[sizeLine_eq];decide +kernel
theorem z47{its:Array Value}{n:Nat}{tk:Tok}{Q:Fin->Shared->Prop}(hh:A.handled=none)(hx:h.get? a=some { cls:=.type "list",data:=.seq its n })(hq:∀e h' t',(∃oe,h'.get? e=some oe/\oe.cls=.type "AttributeError")->(∀b ob,h.get? b=some ob->h'.get? b=some ob)->E (.ref e) ⟨h',g,d,t',os⟩):
  wpAny (model prog w) A (Builtin.«object.__getattribute__» ⟨[.ref a,.str "keys" tk],[]⟩) Q E ⟨h,g,d,t,os⟩:=by
 have hT:(⟨h,g,d,t,os⟩:Shared).TypeIs (.ref a) "list":=⟨_,hx,rfl⟩;have f4:=F.lk_list_keys
 repeat (any_goals (first | assumption | wp_step))
 exact z4X hh z9V hq
theorem z6O{its:Array Value}{n:Nat}{tk:Tok}{R:Result->Shared->Prop}(hh:A.handled=none)(hx:h.get? a=some { cls:=.type "list",data:=.seq its n })(hq:∀e h' t',(∃oe,h'.get? e=some oe/\oe.cls=.type "AttributeError")->(∀b ob,h.get? b=some ob->h'.get? b=some ob)->R (.error (.ref e)) ⟨h',g,d,t',os⟩):
  codeAny (model prog w) A (.call (.builtin "list.__getattribute__") ⟨[.ref a,.str "keys" tk],[]⟩) R ⟨h,g,d,t,os⟩:=
 codeAny_call_builtin F.slot_list_getattribute.plain F.entry_list_ga (F.slot_list_getattribute.check _ _ _ _ _ _ _ _ (show(⟨h,g,d,t,os⟩:Shared).TypeIs (.ref a) "list" from⟨_,hx,rfl⟩) (F.args_list_getattribute_2 _ _) (z47 (by simp[hh]) hx hq))
theorem z9X{its:Array Value}{n:Nat}{tk:Tok}{Q:Value->Shared->Prop}(hh:A.handled=none)(hx:h.get? a=some { cls:=.type "list",data:=.seq its n })(hq:∀e h' t',(∃oe,h'.get? e=some oe/\oe.cls=.type "AttributeError")->(∀b ob,h.get? b=some ob->h'.get? b=some ob)->E (.ref e) ⟨h',g,d,t',os⟩):wpAny (model prog w) A (getAttrBy (.ref a) (.str "keys" tk) false) Q E ⟨h,g,d,t,os⟩:=by
 have hT:(⟨h,g,d,t,os⟩:Shared).TypeIs (.ref a) "list":=⟨_,hx,rfl⟩;have f2:=F.slot_list_getattribute.lookup;have f3:=F.slot_list_getattribute.bind (.ref a);have f4:=F.lk_list_getattr
 repeat (any_goals (first | assumption | wp_step))
 refine z6O hh hx fun e h' t' ⟨oe,ho,hc⟩ hk=>?_;show wpAny (model prog w) A (getattributeRaised (Value.ref a) (Value.str (Str.ofString "keys") tk) (Value.type "list") (.ref e) none false false) Q E _;have hTe:(⟨h',g,d,t',os⟩:Shared).TypeIs (.ref e) "AttributeError":=⟨_,ho,hc⟩;have hs:=F.sub_attrErr;have hE:=hq e h' t' ⟨oe,ho,hc⟩ hk;unfold getattributeRaised
 repeat (any_goals (first | assumption | wp_step))
theorem miss_attr{its:Array Value}{n:Nat}{Q:Option Value->Shared->Prop}(hh:A.handled=none)(hx:h.get? a=some { cls:=.type "list",data:=.seq its n })(hq:∀h' t',(∀b ob,h.get? b=some ob->h'.get? b=some ob)->Q none ⟨h',g,d,t',os⟩):wpAny (model prog w) A (getAttr? (.ref a) "keys") Q E ⟨h,g,d,t,os⟩:=by
 unfold getAttr? getAttrBy?
 repeat (any_goals (first | assumption | with_reducible apply z9X hh hx | wp_step))
 rintro e h' t' ⟨oe,ho,hc⟩ hk;have hTe:(⟨h',g,d,t',os⟩:Shared).TypeIs (.ref e) "AttributeError":=⟨_,ho,hc⟩;have hs:=F.sub_attrErr;have hE:=hq h' t' hk;show wpAny (model prog w) A (isInstance (.ref e) (Value.type "AttributeError") >>= _) Q E _
 repeat (any_goals (first | assumption | wp_step))
end
end PySem
namespace L2
open PySem PySem.Spec PyProof.Rows
noncomputable def Puts(p:Addr):List (V×V)->Hp->Hp->Prop
 | [],H,H'=>H'=H
 | q::r,H,H'=>∃H1,DPutR H p q.1 q.2 H1/\Puts p r H1 H'
section
variable{X:Cx}{pins:List (Addr×Obj)}{σ:St}{H:Hp}{s:Shared}{a:Addr}{y v:V}{u r:Value}{A:Around}{E:Value->Shared->Prop}
theorem DPutR.ne{H':Hp}(g:DPutR H a y v H'):∃o,H'=upd H a o/\uB o/\∃q,H a=some q/\uB q:=by
 rcases g with (⟨kvs,k,e,ey,l,rfl⟩ | ⟨kvs,k,b,e,ey,eb,l,rfl⟩) | ⟨k,b,e,ey,hb,rfl⟩ | ⟨k,e,ey,rfl⟩
 ·exact⟨_,rfl,True.intro,_,e,True.intro⟩
 ·exact⟨_,rfl,True.intro,_,e,True.intro⟩
 ·exact⟨_,rfl,True.intro,_,e,True.intro⟩
 ·exact⟨_,rfl,True.intro,_,e,True.intro⟩
theorem z4B{H':Hp}{Q:Unit->Shared->Prop}(hu:A.units<cLine)(I:Inv X pins σ H s)(g:DPutR H a y v H')(ry:RelV y u)(rv:RelV v r)(h:∀h' t',Heap.SameBut a s.heap h'->Inv X pins σ H' { s with heap:=h',toks:=t' }->Q () { s with heap:=h',toks:=t' }):
  wpAny (model X.prog X.w) A (dictSet a u r) Q E s:=by
 have go:∀{H H':Hp},Inv X pins σ H s->DPut H a y v H'->(∀h' t',Heap.SameBut a s.heap h'->Inv X pins σ H' { s with heap:=h',toks:=t' }->Q () { s with heap:=h',toks:=t' })->wpAny (model X.prog X.w) A (dictSet a u r) Q E s:=by
  intro H H' I g h;rcases g with ⟨kvs,k,e,ey,l,eH⟩ | ⟨kvs,k,b,e,ey,eb,l,eH⟩
  ·subst ey eH;obtain⟨z,hd,vs,rel,dd⟩:=z71 I.hok e;have hz:vs.length<=sizeLine:=by rw[<-rel.length];exact z
   have hl:(putK kvs k v).length<=sizeLine:=by have:=xO kvs k v;omega
   refine wpAny_dictSet_pairs (hsz:=hz) (z2v ry) dd fun h' dd' hs=>h _ _ hs ?_;have he:∃q,h'.get? a=some q:=let⟨q,_,_,hq,_⟩:=dd';⟨q,hq⟩
   exact wJ I (by rw[e];exact True.intro) hs he (z5J hl hd (rel.put k rv) dd')
  ·subst ey eH;cases(show u=Value.ref b from ry);obtain⟨z,hd,xs,rel,dd⟩:=z70 I.hok e;have hz:xs.length<=sizeLine:=by rw[<-Paired.length rel];exact z
   have hl:(putK kvs k v).length<=sizeLine:=by have:=xO kvs k v;omega
   refine wpAny_dictSet_heap (hsz:=hz) hu (wA I.hok eb) dd fun h' dd' hs=>h _ _ hs ?_;obtain⟨q,es,ep,hq,h2,h3,h4,_,h5⟩:=dd';refine wJ I (by rw[e];exact True.intro) hs ⟨q,hq⟩ ⟨hl,hd,_,(rel.put k eb rv).keeps fun c ys ec=>?_,q,es,ep,hq,h2,h3,h4,h5⟩;rw[zI (z5A ec e (fun z=>nomatch z))];exact ec
 rcases g with g | ⟨k,b,e,rfl,hb,rfl⟩ | ⟨k,e,rfl,rfl⟩
 ·exact go I g h
 ·have hba:b≠a:=z5A hb e (fun z=>nomatch z);refine go (I.relT e) (DPut.t (kvs:=[]) zG (by rw[zI hba];exact hb) (by show 0<sizeLine;rw[sizeLine_eq];decide)) fun h' t' hs I'=>h h' t' hs ?_;rw[wu]at I';exact I'
 ·refine go (I.relK e) (DPut.k (kvs:=[]) zG (by show 0<sizeLine;rw[sizeLine_eq];decide)) fun h' t' hs I'=>h h' t' hs ?_;rw[wu]at I';exact I'
theorem zCI{l I p:Addr}{R:Result->Shared->Prop}(hh:A.in1.handled=none)(hu:A.in1.units<cLine)(hlI:l≠I):
  ∀(ps:List (V×V)) (i:Nat) (xs:List V) (s:Shared) (H H':Hp) (t:Tok),xs.length=i+ps.length->(∀j y v,ps[j]?=some (y,v)->∃b,xs[i+j]?=some (.ref b)/\H b=some (.tup [y,v]))->H l=some (.lst xs)->Inv X pins σ H s->FpOk X pins H I->s.heap.IsListIter I l i->Puts p ps H H'->
   (∀s',Inv X pins σ H' s'->R (.ok (.ret .none)) s')->codeAny (model X.prog X.w) A (.builtin "dict.update.loop" ⟨[.ref p,.ref I,.int (i:Int) t,.none],[]⟩) R s:=by
 intro ps
 induction ps with
 | nil=>
  intro i xs s H H' t hl hx hL I0 fp hit hP hR;obtain⟨its,rv,pl,hz⟩:=I0.list (SqL.of (K:=X.K) hL);have hlen:=rv.length;refine codeAny_builtin PySem.F.entry_dict_update_loop ?_;rw[Around.under_plainId PySem.F.plain_dict_update_loop _];show wpAny _ A.in1 (pyNext (.ref I) >>= _) _ _ s;obtain⟨f0,f1,f2,f3,f4,f5⟩:=fp;refine wpAny_bind (wpAny_pyNext_list_end hh hit pl.isList (by simp at hl |-;omega) fun h' eb=>?_);have I1:Inv X pins σ H { s with heap:=h' }:=I0.turned (t':=s.toks) (fun b o hb e=>eb b o hb e) f0 f1 f3 f4 f5;show wpAny _ A.in1 (Builtin.Dict.addKeywords p [] >>= fun _=>ret Value.none) _ _ _;refine wpAny_bind (wpAny_pure (wpAny_pure ?_));have e:H'=H:=hP;subst e;exact hR _ I1
 | cons q r ih=>
  intro i xs s H H' t hl hx hL I0 fp hit hP hR;obtain⟨y,v⟩:=q;obtain⟨H1,g,hP⟩:=hP;obtain⟨b,eb,hb⟩:=hx 0 y v rfl;obtain⟨its,rv,pl,hz⟩:=I0.list (SqL.of (K:=X.K) hL);have hlen:=rv.length;obtain⟨iv,ei,ri⟩:=rv.get (show xs[i]?=some (.ref b) by simpa using eb);cases ri;refine codeAny_builtin PySem.F.entry_dict_update_loop ?_;rw[Around.under_plainId PySem.F.plain_dict_update_loop _];show wpAny _ A.in1 (pyNext (.ref I) >>= _) _ _ s;obtain⟨f0,f1,f2,f3,f4,f5⟩:=id fp;refine wpAny_bind (wpAny_pyNext_list_item (x:=.ref b) hit pl.isList (by simpa using ei) fun h' hit' sb=>?_);have I1:Inv X pins σ H { s with heap:=h' }:=I0.turned (t':=s.toks) (fun c o hb e=>(sb.2 c hb).trans e) f0 f1 f3 f4 f5;obtain⟨its2,rt,pt,hz2⟩:=I1.tuple (SqT.of (K:=X.K) hb);obtain⟨uy,r2,rfl,ry,⟨uv,rfl,rvv⟩⟩:∃uy r2,its2=uy::r2/\RelV y uy/\∃uv,r2=[uv]/\RelV v uv:=by
   cases rt with
   | cons a1 a2=>
    cases a2 with
    | cons b1 b2=>cases b2;exact⟨_,_,rfl,a1,_,rfl,b1⟩
  refine wpAny_bind (wpAny_holding ?_);refine wpAny_bind (wpAny_tryCatch ?_);have hT:Shared.TypeIs { s with heap:=h' } (.ref b) "tuple":=by obtain⟨o,e,c,_⟩:=pt;exact⟨o,e,c⟩
  obtain⟨ot,hot,hct,n0,hdt⟩:=pt;obtain⟨oq,eH,hdo,oq0,eq0,hdq0⟩:=g.ne;have hpI:p≠I:=fun z=>by rw[z,f0]at eq0;cases eq0
  have hpl:p≠l:=fun z=>by rw[z,hL]at eq0;cases eq0;exact hdq0
  unfold Builtin.Dict.pairItems;refine wpAny_bind (wpAny_typeOf hT ?_);rw[if_pos (by decide)];refine wpAny_bind (wpAny_seqItems hot hdt ?_);refine wpAny_pure ?_;show wpAny _ A.in1 (holding [uy,uv] (dictSet p uy uv)) _ _ _;refine wpAny_holding (z4B hu I1 g ry rvv fun h2 t2 sb2 I2=>?_);refine wpAny_pure ⟨plainId_quiet PySem.F.plain_dict_update_loop _,?_⟩;have nt:∀{c:Addr} {w:HO},H c=some w->¬uB w->H1 c=some w:=fun{c w} e hn=>by
   rw[eH,zI (fun z=>by rw[z,eq0]at e;cases e;exact hn hdq0)];exact e
  refine ih (i+1) xs _ H1 H' 0 (by simp at hl |-;omega) (fun j y' v' e=>?_) (nt hL id) I2 ⟨by rw[eH,zI (Ne.symm hpI)];exact f0,f1,f2,f3,f4,f5⟩ ?_ hP hR
  ·obtain⟨c,ec,hc⟩:=hx (j+1) y' v' (by simpa using e);exact⟨c,by rw[show i+1+j=i+(j+1) by omega];exact ec,nt hc id⟩
  ·obtain⟨oi,e1,e2⟩:=hit';exact⟨oi,(sb2.2 I (Ne.symm hpI)).trans e1,e2⟩
theorem z2T(hc:X.calm=true)(hu:X.A.units+64<cLine):CallR X (.type "dict") (fun zs H Q=>∃(l:Addr) (xs:List V),zs=[.ref l]/\H l=some (.lst xs)/\
  ∀p,H p=none->∃(ps:List (V×V)) (H':Hp),xs.length=ps.length/\(∀(j:Nat) (y v:V),ps[j]?=some (y,v)->∃b,xs[j]?=some (.ref b)/\H b=some (.tup [y,v]))/\Puts p ps (upd H p (.dK [])) H'/\Q (.ref p) H'):=by
 intro pins s σ H zs us Q I0 r h;obtain⟨l,xs,rfl,hL,q⟩:=h;obtain⟨u,rfl,ru⟩:=xf r;cases ru;have hn:=I0.hok.fresh (Nat.le_refl s.heap.objs.size);obtain⟨ps,H',hlen,hx,hP,q⟩:=q _ hn;have I1:=I0.laid (a:=s.heap.objs.size) (o:=.dK []) (h':=s.heap.push { cls:=.type "dict",data:=.dict #[] }) (t':=s.toks) (fun _ _ q=>Heap.get?_push_of_some _ q) (Nat.le_refl _) (z3b s.heap I0.big);refine callType_codes (Q₁:=fun obj s₁=>obj=.ref s.heap.objs.size/\s₁={ s with heap:=s.heap.push { cls:=.type "dict",data:=.dict #[] } }) PySem.F.kt_called_dict (PySem.F.kt_typeCall_dict_1 _) PySem.F.entry_dict_init (PySem.kt_code_dict_new _ ⟨rfl,rfl⟩) ?_;rintro obj s₁ ⟨rfl,rfl⟩;have hT:Shared.TypeIs { s with heap:=s.heap.push { cls:=.type "dict",data:=.dict #[] } } (.ref s.heap.objs.size) "dict":=⟨_,Heap.get?_push_size _ rfl,rfl⟩;refine⟨hT,PySem.F.args_dict_init_2 _ _,?_⟩;have hlp:l≠s.heap.objs.size:=fun z=>by rw[z,hn]at hL;cases hL
 have hL1:upd H s.heap.objs.size (.dK []) l=some (.lst xs):=by rw[zI hlp];exact hL
 obtain⟨_,its,nn,rv,hol⟩:=(show ObjOk X.prog X.w _ _ l (.lst xs) from I1.hok l _ hL1);have hTl:Shared.TypeIs { s with heap:=s.heap.push { cls:=.type "dict",data:=.dict #[] } } (.ref l) "list":=⟨_,hol,rfl⟩;have hh:X.A.in1.in1.handled=none:=by have:=I0.ok.hd hc;simpa using this
 unfold Builtin.«dict.__init__»;refine wpAny_bind ?_;unfold Builtin.Dict.selfAndRest;refine wpAny_bind (wpAny_notOrdered_dict hT ?_);show wpAny _ _ (pure (s.heap.objs.size,[Value.ref l])) _ _ _;refine wpAny_pure ?_;show wpAny _ _ (Builtin.Dict.updateFrom "dict.__init__" s.heap.objs.size (.ref l) [] .none) _ _ _;unfold Builtin.Dict.updateFrom;refine wpAny_bind (wpAny_typeOf hTl ?_);rw[if_pos (by decide)];refine wpAny_bind (PySem.miss_attr hh hol fun h' t' hk=>?_);simp only[Option.isNone_none,if_true];have I2:Inv X pins σ (upd H s.heap.objs.size (.dK [])) { s with heap:=h',toks:=t' }:=I1.kept (t':=t') hk;refine wpAny_bind (wpAny_rule ?_);refine wpAny_bind (wpAny_pyIter_list ⟨_,hk _ _ hol,rfl,nn,rfl⟩ ?_);have I3:Inv X pins σ (upd H s.heap.objs.size (.dK [])) { s with heap:=h'.push { cls:=.type "list_iterator",data:=.fields #[.ref l,.int 0 0] },toks:=t' }:=I2.kept (t':=t') fun b o e=>Heap.get?_push_of_some _ e;have fr:upd H s.heap.objs.size (.dK []) h'.objs.size=none:=I2.hok.fresh (Nat.le_refl _);have fp:FpOk X pins (upd H s.heap.objs.size (.dK [])) h'.objs.size:=I2.fpOk (Nat.le_refl _) fr;have hlI:l≠h'.objs.size:=fun z=>by rw[z,fr]at hL1;cases hL1
 refine wpAny_pure ⟨plainId_quiet PySem.F.plain_dict_update_loop _,?_⟩;refine zCI (l:=l) (I:=h'.objs.size) (p:=s.heap.objs.size) (by simpa using I0.ok.hd hc) ?_ hlI ps 0 xs _ (upd H s.heap.objs.size (.dK [])) H' 0 (by omega) (fun j y v e=>?_) hL1 I3 fp ⟨_,Heap.get?_push_size _ rfl,rfl,rfl⟩ hP fun s' I'=>?_
 ·have:X.A.in1.in1.units=X.A.units+1+1:=rfl;omega
 ·obtain⟨b,e1,e2⟩:=hx j y v e;exact⟨b,by rw[Nat.zero_add];exact e1,by rw[zI (fun z=>by rw[z,hn]at e2;cases e2)];exact e2⟩
 ·exact⟨rfl,.ref s.heap.objs.size,H',I',rfl,q⟩
end
noncomputable def wP:List PyData->List (PyData×PyData)->Option (List (PyData×PyData))
 | [],acc=>some acc
 | .tuple [k,v]::r,acc=>(putD acc k v).bind (wP r)
 | _,_=>none
noncomputable def z2j(m:Env'->Mx D):Env'->Mx PyData:=fun ρ=>m ρ >>= fun d=>Mx.opt (onP (fun x=>match x with | .list ds=>(wP ds []).map PyData.dict | _=>none) d)
section
variable{K:W.Frag}{Er:Str->Hp->Prop}{X:Cx}{e:Expr}{m:Env'->Mx D}{pos:Pos}
theorem z4p{S:Addr->Prop}{p:Addr}:∀{ds:List PyData} {kvs res:List (PyData×PyData)} {xs:List V} {H:Hp},S p->Pl H p->(∃ks,DctAt H p ks/\DctS S H kvs ks)->DatsS S H ds xs->wP ds kvs=some res->
  ∃ps H',xs.length=ps.length/\(∀(j:Nat) (y v:V),ps[j]?=some (y,v)->∃b,xs[j]?=some (.ref b)/\H b=some (.tup [y,v]))/\Puts p ps H H'/\(∀b,b≠p->H' b=H b)/\Pl H' p/\∃ks,DctAt H' p ks/\DctS S H' res ks
 | [],kvs,res,xs,H,hS,hpl,hk,hd,hr=>by
  simp only[DatsS]at hd;subst hd;simp only[wP]at hr;cases hr;exact⟨[],H,rfl,fun j y v e=>by simp at e,rfl,fun _ _=>rfl,hpl,hk⟩
 | d::r,kvs,res,xs,H,hS,hpl,hk,hd,hr=>by
  unfold wP at hr;split at hr
  ·cases ‹_::_=[]›
  next k v r' acc e1=>
   cases e1;obtain⟨z,ez,hr⟩:=Option.bind_eq_some_iff.mp hr;simp only[DatsS]at hd;obtain⟨x,xs',rfl,dx,dr⟩:=hd;simp only[DatS]at dx;obtain⟨b,ys,rfl,hb,dys⟩:=dx;simp only[DatsS]at dys;obtain⟨y,r1,rfl,dy,w,r2,rfl,dv,rfl⟩:=dys;unfold putD at ez;split at ez
   next c=>
    cases ez;obtain⟨ks,h1,h2⟩:=hk;obtain⟨o,ks',p1,p2,p3,p4⟩:=z5j hS hpl h1 h2 dy dv c.1 c.2;have nt:=h1.not_tup;have kS:Kp S H (upd H p o):=fun c u h z=>by
     by_cases e:c=p
     ·subst e;rcases z with z | ⟨xs,rfl⟩
      ·exact absurd hS z
      ·exact absurd h (nt xs)
     ·rw[zI e];exact h
    obtain⟨ps,H',l1,l2,l3,l4,l5,l6⟩:=z4p (p:=p) (xs:=xs') hS (Pl.upd p4) ⟨ks',p2,DctS.kp kS (fun _ z=>.inl z) p3⟩ (DatsS.kp kS (fun _ z=>.inl z) dr) hr;refine⟨(y,w)::ps,H',by simp[l1],fun j y' v' e=>?_,⟨_,p1,l3⟩,fun c hc=>(l4 c hc).trans (zI hc),l5,l6⟩;cases j with
    | zero=>simp at e;obtain⟨rfl,rfl⟩:=e;exact⟨b,rfl,hb⟩
    | succ j=>
     obtain⟨c,ec,hc⟩:=l2 j y' v' (by simpa using e);have hcp:c≠p:=fun z=>by
      subst z;rw[zG]at hc;cases hc;rcases p2 with ⟨l,q,_⟩ | ⟨l,q,_⟩<;>exact q.not_tup True.intro _ zG
     rw[zI hcp]at hc;exact⟨c,by simpa using ec,hc⟩
   next=>cases ez
  next=>cases hr
theorem z9v{p:Pos}(hc:X.calm=true)(hu:X.A.units+64<cLine)(hg:Gl X "dict")(hm:X.mg "dict"=none)(hv:bootBuiltins "dict"=some (.type "dict"))(he:DE K Er X e m)(hs:starEach [e] X.env=(false,eval e X.env)::starEach [] X.env:=by rfl):
  DF K Er X (.Call (.Name "dict" p) [e] [] pos) (z2j m):=(xH (z2T hc hu) hg hm hv (zW he pa_nil hs) (by decide) (by decide) hs rfl).imp fun σ H Q h=>rd1 h ww fun g ow ρ n d v H0 H2 fr _ r q=>by
 obtain⟨z,ez,q2⟩:=z0A q;obtain⟨x,rfl,e1⟩:=zf ez;cases x<;>simp only at e1<;>try (cases e1;done)
 rename_i ds
 obtain⟨res,er,e2⟩:=Option.map_eq_some_iff.mp e1;subst e2;obtain⟨l,xs,rfl,hn,h1,h2⟩:=(show ∃a xs,v=.ref a/\¬(g.S ow) a/\H2 a=some (.lst xs)/\DatsS (g.S ow) H2 ds xs by simpa only[Rep,DatS]using r);refine⟨l,xs,rfl,h1,fun p hp=>?_⟩
 ·have s:=Same.new (o:=.dK []) hp;obtain⟨ps,H',l1,l2,l3,l4,l5,ks,l6,l7⟩:=z4p (S:=fun b=>g.S ow b\/b=p) (p:=p) (H:=upd H2 p (.dK [])) (xs:=xs) (.inr rfl) Pl.upd ⟨[],.inl ⟨[],.inl zG,rfl⟩,by simp only[DctS]⟩ (DatsS.kp (Kp.of s) (fun b z=>z.elim .inl fun e=>.inr (e▸hp)) h2) er;refine⟨ps,H',l1,fun j y v e=>?_,l3,?_⟩
  ·obtain⟨b,e1,e2⟩:=l2 j y v e;have hb:b≠p:=fun z=>by subst z;rw[zG]at e2;cases e2
   exact⟨b,e1,by rw[zI hb]at e2;exact e2⟩
  ·have kk:Kp g.T H2 H':=fun b o e _=>by rw[l4 b (zb e hp)];exact s _ _ e
   refine q2 (.ref p) H' kk (Same.twn (g:=g) (fun b o e=>by rw[l4 b (zb e hp)];exact s _ _ e) fr.twn) ⟨p,rfl,hp,l5,?_⟩
   ·simp only[Dat1];exact⟨p,ks,rfl,id,l6,l7⟩
end
section
variable{K:W.Frag}{Er:Str->Hp->Prop}{X:Cx}{o e f:Expr}{md mk mz:Env'->Mx D}{apos cpos:Pos}
end
section
variable{prog:Program}{w:World}{A:Around}{E:Value->Shared->Prop}{s:Shared}
end
section
variable{X:Cx}
variable{K:W.Frag}{Er:Str->Hp->Prop}{a:Expr}{ma:Env'->Mx D}
end
section
variable{M:Model}{A:Around}{E:Value->Shared->Prop}{s:Shared}
end
section
variable{X:Cx}{E:XK}{x:Str}{C:Addr}{bmB:List Value}{B newId initId:String}{np cpos pos:Pos}{a:Expr}{ta:TA}
end
section
variable{K:W.Frag}{Er:Str->Hp->Prop}{X:Cx}{E:XK}
end
section
variable{P:Program}{w:World}{K:W.Frag}{mg:Str->Option Value}{base:Heap}
end
section
variable{X:Cx}{pins:List (Addr×Obj)}{σ:St}{H:Hp}{s:Shared}
end
section
variable{M:Model}{A:Around}{E:Value->Shared->Prop}
variable{nm q nm' q':Str}{C N G N':Addr}{bs bm bs' bm':List Value}{hd hd':Bool}{sn sn':List Str}{sub sub':List Value}{ab ab':Bool}{col col':Option Bool}{dd dd':Option Addr}{k0 k1 k2 k3 k5 j0 j1 j2 j3 j5:Option Value}{nI nI':String}
end
section
variable{X:Cx}{pins:List (Addr×Obj)}{σ:St}{H:Hp}{s:Shared}
end
section
variable{X:Cx}{pins:List (Addr×Obj)}{σ:St}{H:Hp}{s:Shared}
end
section
open PySem.W
variable{prog:Program}{w:World}{A:Around}{E:Value->Shared->Prop}{h:Heap}{g:Array GenState}{d:Drawn}{t:Nat}{os:OsState}{a C:Addr}{o:Obj}{K:Frag}
end
section
variable{X:Cx}{CX:CXT}{k:Nat}{f C:Addr}{fd:FuncData}{ps:List Str}{sp:Sp}{dvs:List V}{ds:List Value}{E:XK}{x m:Str}{p pos apos:Pos}{e o:Expr}{es:List Expr}{ta:TE}{t:TA}
end
section
variable{K:W.Frag}{Er:Str->Hp->Prop}{X:Cx}{e:Expr}{es:List Expr}{pos:Pos}{ms:Env'->Mx (List D)}
end
section
variable{P:Program}{w:World}{K:W.Frag}{mg:Str->Option Value}{base:Heap}
end
section
open PySem.W
variable{K:Frag}{ea C:Addr}
end
section
variable{X:Cx}
variable{K:W.Frag}{Er:Str->Hp->Prop}{e:Expr}{m:Env'->Mx D}
end
section
variable{K:W.Frag}{Er:Str->Hp->Prop}{X:Cx}
end
section
variable{X:Cx}
end
section
variable{K:W.Frag}{Er:Str->Hp->Prop}{X:Cx}{e:Expr}{m:Env'->Mx D}
end
section
variable{K:W.Frag}{Er:Str->Hp->Prop}{X:Cx}
end
section
variable{K:W.Frag}{G:Addr}{Cs:List Addr}
end
section
variable{K:W.Frag}{Er:Str->Hp->Prop}{X:Cx}{e:Expr}{es:List Expr}{m:Env'->Mx D}{ms:Env'->Mx (List D)}
end
section
variable{prog:Program}{w:World}{A:Around}{E:Value->Shared->Prop}{s:Shared}
end
section
variable{X:Cx}
variable{K:W.Frag}{Er:Str->Hp->Prop}{e k v o:Expr}{ms:Env'->Mx (List D)}{mk mv:Env'->Mx D}{pos:Pos}
variable{g:Gh}{ow:Ix->Option Addr}{ρ:Env'}{n n':Wd}{σ:St}{H H' H1:Hp}
theorem DatsS.set{S:Addr->Prop}{d:PyData}{v:V}(hd:DatS S H d v):∀{ds:List PyData} {xs:List V} (k:Nat),DatsS S H ds xs->DatsS S H (ds.set k d) (xs.set k v)
 | [],_,_,h=>by simp only[DatsS]at h;subst h;exact .nil
 | _::_,_,0,h=>by
  simp only[DatsS]at h;obtain⟨x,r,rfl,h1,h2⟩:=h;exact .cons hd h2
 | _::_,_,k+1,h=>by
  simp only[DatsS]at h;obtain⟨x,r,rfl,h1,h2⟩:=h;exact .cons h1 (DatsS.set hd k h2)
noncomputable def putL(l:List PyData):PyData->PyData->Option (List PyData)
 | .int k,v=>if 0<=k/\k<l.length then some (l.set k.toNat v)else none
 | _,_=>none
noncomputable def z7V(i:Nat)(mk mv:Env'->Mx D):Env'->Mx Out:=fun ρ=>mv ρ >>= fun v=>Mx.opt (ownL ρ i) >>= fun l=>mk ρ >>= fun k=>Mx.opt ((onP2 (putL l) k v).map fun z=>Out.nx (ρ.set i (some (Sl.own (.list z)))))
theorem zAJ{i:Nat}{pos':Pos}(ho:PE X o (tVar i))(hk:DE K Er X k mk)(hv:DE K Er X v mv)(ps:PS X (.Assign [.Subscript o k pos'] v pos) (tAsg (rdG RE K Er mv) (gSub (tVar i) (rdG RE K Er mk) zAV))):
  DS K Er X (.Assign [.Subscript o k pos'] v pos) (z7V i mk mv):=ps.imp fun σ H E h=>rs1 h fun g ow ρ n n1 d v H1 f k f1 r q=>by
 obtain⟨l,ek,q⟩:=z0T q;obtain⟨a,xs,e1,e2,e3,e4⟩:=f1.ownLst ek;refine⟨.ref a,e2,g,ow,ρ,n1,f1,wn f1 q fun n2 x y H2 k2 f2 r2 q2=>?_⟩;obtain⟨out,eo,q3⟩:=rs_o q2;obtain⟨z,ez,eo2⟩:=Option.map_eq_some_iff.mp eo;subst eo2;obtain⟨x',d',rfl,rfl,e5⟩:=yX ez;cases x'<;>simp only[putL]at e5<;>try (cases e5;done)
 rename_i j
 split at e5
 next c=>
  cases e5;obtain⟨a',xs',g1,g2,g3,g4⟩:=f2.ownLst ek;rw[e1]at g1;cases g1;have rd:DatS (g.S ow) H2 d' v:=Rep.kp (g:=g) (d:=.p d') (k2.mono Gh.ts) (fun _ z=>.inl z) r;have kS:=f2.kpOwn (o:=.lst (xs'.set j.toNat v)) e1 (not_tup g3);have ej:y=.int j:=by simpa only[Rep,DatS]using r2
  subst ej;refine⟨a,xs',j,j.toNat,rfl,rfl,g3,?_,?_⟩
  ·have hl:j<(xs'.length:Int):=by rw[<-g4.length];exact c.2
   unfold ixN
   first | (rw[if_pos c.1,if_pos hl]) | (split<;>(try split)<;>first | rfl | (simp;omega) | omega)
  ·refine q3 _ _ _ (f2.updOwn (z06 ek) e1 (not_tup g3) ?_) (Stp.upd f2 e1 (not_tup g3));simp only[Dat1];exact⟨a,_,rfl,id,zG,(DatsS.kp kS (fun _ z=>.inl z) g4).set (DatS.kp kS (fun _ z=>.inl z) rd) _⟩
 next=>cases e5
end
section
variable{K:W.Frag}{Er:Str->Hp->Prop}{X:Cx}{e:Expr}{es:List Expr}{ms:Env'->Mx (List D)}{pos p:Pos}
noncomputable def mFnV(a:Addr):Env'->Mx D:=fun _=>pure (.fn a)
theorem zDB{a:Addr}(h:PE X e (tC (.ref a))):DE K Er X e (mFnV a):=h.imp fun σ H Q ⟨g,ow,ρ,n,f,q⟩=>q (.ref a) H (Kp.refl _ _) f.twn rfl
noncomputable def isFn(o:Option (Option Sl))(f:Addr):Bool:=match o with
 | some (some (Sl.val (.fn a)))=>decide (a=f)
 | _=>false
theorem z9c{o:Option (Option Sl)}{f:Addr}(h:isFn o f=true):o=some (some (Sl.val (.fn f))):=by
 unfold isFn at h;split at h
 next a=>rw[of_decide_eq_true h]
 next=>cases h
noncomputable def z3W(i:Nat)(f:Addr)(F:List D->Mx D)(ms:Env'->Mx (List D)):Env'->Mx D:=fun ρ=>if isFn ρ[i]? f=true then zQ F ms ρ else Mx.bad
theorem z7f{CX:CXT}{k i:Nat}{f:Addr}{fd:FuncData}{ps:List Str}{sp:Sp}{dvs:List V}{ds:List Value}{E:XK}{x:Str}{t:TA}(F:FnOk X.prog X.w X.K X.mg X.base CX k f fd ps sp)(hr:Room k X.A)(hn:PE X (.Name x p) (tVar i))(hk:W.keepIn X.K (.ref f)=true)(hb:Binds X.K fd ps ds)(hd:Vals dvs ds)(hx:z0c CX X E)
  (ha:PA X (e::es) t) (he:starEach (e::es) X.env=(false,eval e X.env)::starEach es X.env:=by rfl) (hpl:(backTo pos (starEach es X.env)).any (·.1)=false:=by rfl) :
  PE X (.Call (.Name x p) (e::es) [] pos) (fun σ H Q=>σ[i]?=some (some (.ref f))/\zB3 sp dvs E t σ H Q):=by
 intro pins s σ H Q I h;obtain⟨h0,h⟩:=h;refine wpAny_Call_Name_kw (thn (hn pins s σ H (fun v H1=>v=.ref f/\H1=H) I ⟨.ref f,h0,rfl,rfl⟩) fun u s1 ⟨v,H1,I1,r1,e1,e2⟩=>?_);subst e1 e2;obtain rfl:u=Value.ref f:=r1;refine W.callWith_K (h₀:=X.base) I1.ok.mod.kin hk (thn (ha pos pins s1 σ H1 _ I1 h) fun us s2 ⟨vs,H2,I2,r,q⟩=>⟨I2.kIn,?_⟩) he hpl;exact z8c F hr hb hd hx I2 r q
theorem z7j{F:List D->Mx D}{EW:Str->XK->Hp->Prop}{E:XK}{CX:CXT}{k i:Nat}{f:Addr}{fd:FuncData}{ps:List Str}{x:Str}(Fn:FnOk X.prog X.w X.K X.mg X.base CX k f fd ps (spD K EW F))(hE:∀c H',Er c H'->EW c E H')(hr:Room k X.A)(hn:PE X (.Name x p) (tVar i))(hk:W.keepIn X.K (.ref f)=true)(hb:Binds X.K fd ps [])(hx:z0c CX X E)
  (ha:DA K Er X (e::es) ms) (he:starEach (e::es) X.env=(false,eval e X.env)::starEach es X.env:=by rfl) (hpl:(backTo pos (starEach es X.env)).any (·.1)=false:=by rfl) :
  DE K Er X (.Call (.Name x p) (e::es) [] pos) (z3W i f F ms):=(z7f Fn hr hn hk hb .nil hx ha he hpl).imp fun σ H Q h=>by
 obtain⟨g,ow,ρ,n,fr,q⟩:=h;unfold z3W at q;split at q
 next c=>
  obtain⟨v,e1,e2⟩:=fr.val i (.fn f) (z9c c);have e2:v=.ref f:=e2;subst e2;exact⟨e1,z1Y hE ⟨g,ow,ρ,n,fr,q⟩⟩
 next=>exact q.elim
end
section
variable{K:W.Frag}{Er:Str->Hp->Prop}{X:Cx}{e a b:Expr}{es els:List Expr}{ms:Env'->Mx (List D)}{m:Env'->Mx D}{pos p lp:Pos}
end
section
variable{K:W.Frag}{Er:Str->Hp->Prop}{X:Cx}{a:Expr}{ma:Env'->Mx D}{pos p2:Pos}
end
open PySem PySem.Spec PyProof.Rows PySem.Builtin PySem.Builtin.Str
section
variable{K:W.Frag}{Er:Str->Hp->Prop}{X:Cx}{e a tg it:Expr}{ma mo m:Env'->Mx D}{pos:Pos}
noncomputable def toS:List PyData->Option (List Str)
 | []=>some []
 | .str y::r=>(toS r).map (y::·)
 | _::_=>none
end
section
variable{K:W.Frag}{Er:Str->Hp->Prop}{X:Cx}{o a:Expr}{ma mo:Env'->Mx D}{apos cpos:Pos}
end
open PySem PySem.Spec PyProof.Rows PySem.Builtin
section
variable{K:W.Frag}{Er:Str->Hp->Prop}{X:Cx}{e o a:Expr}{ma mo m:Env'->Mx D}{apos cpos pos:Pos}
end
end L2
namespace PySem.SeqAt
open PySem PySem.MeetsSeq PySem.MeetsSeq2 PySem.MeetsSeq3 PySem.Builtin
open PySem.AutoSeq1 (wpAny_loadPart')
end PySem.SeqAt
namespace L2
open PySem PySem.Spec PyProof.Rows
mutual
noncomputable def ltP:PyData->PyData->Option Bool
 | .int i,.int j=>some (decide (i<j))
 | .tuple xs,.tuple ys=>ltPs xs ys
 | _,_=>none
noncomputable def ltPs:List PyData->List PyData->Option Bool
 | x::xs,y::ys=>if PyData.eqv x y=true then ltPs xs ys else ltP x y
 | [],[]=>some false
 | [],_::_=>some true
 | _::_,[]=>some false
end
end L2
namespace HT
open PySem PySem.Spec PyProof.Rows L2
section
open PySem.SeqAt
open PySem.AutoSeq1 (wpAny_loadPart')
open PySem.MeetsSeq PySem.MeetsSeq2 PySem.MeetsSeq3
end
end HT
namespace L2
open PySem PySem.Spec PyProof.Rows
section
variable{K:W.Frag}{Er:Str->Hp->Prop}{X:Cx}{e:Expr}{m:Env'->Mx D}
end
end L2
namespace PySem.SeqAt
open PySem PySem.MeetsSeq PySem.MeetsSeq2 PySem.MeetsSeq3 PySem.Builtin
open PySem.AutoSeq1 (wpAny_loadPart')
end PySem.SeqAt
namespace L2
open PySem PySem.Spec PyProof.Rows
section
variable{K:W.Frag}{Er:Str->Hp->Prop}{X:Cx}{e:Expr}{m:Env'->Mx D}{pos:Pos}
end
section
variable{K:W.Frag}{Er:Str->Hp->Prop}{X:Cx}
end
open PySem.W (KasT kas_sort kas_ask kat_run kat_snds kat_kind kat_lt KatTups KatLex kat_nil kat_cons kat_go kat_yes kat_no kat_one kat_lt_int)
section
variable{K:W.Frag}{Er:Str->Hp->Prop}{X:Cx}{o e:Expr}{mo mk:Env'->Mx D}{apos cpos:Pos}
end
section
variable{X:Cx}
end
section
variable{prog:Program}{w:World}{A:Around}{R:Result->Shared->Prop}
end
section
variable{prog:Program}{w:World}{A:Around}
end
section
variable{X:Cx}
end
section
variable{prog:Program}{w:World}{A:Around}{R:Result->Shared->Prop}
end
section
variable{X:Cx}
variable{K:W.Frag}{Er:Str->Hp->Prop}{m:Env'->Mx D}
end
open PySem
section
variable{K:W.Frag}{Er:Str->Hp->Prop}{X:Cx}{g:Gh}{ow:Ix->Option Addr}{ρ:Env'}{n n':Wd}{σ:St}{H H' H1:Hp}{kls:List (PyData×List PyData)}
end
section
variable{K:W.Frag}{Er:Str->Hp->Prop}{X:Cx}{g:Gh}{ow:Ix->Option Addr}{ρ:Env'}{n n':Wd}{σ:St}{H H' H1:Hp}
end
section
variable{K:W.Frag}{Er:Str->Hp->Prop}{X:Cx}{elt it:Expr}{pos:Pos}{mc:Env'->Mx Bool}{m:Env'->Mx D}
theorem z6d{mk:Env'->Mx D}{N N':List Str}{sc scope:Scope}{x:Str}{ifs:List Expr}{px:Pos}{tc:TT}(hc:X.calm=true)(hN:X.N=N)
  (hcap:∀y:Str,(sc.names.lookup y=some .cell\/sc.names.lookup y=some .free)->(X.env.scope.names.lookup y=some .cell\/X.env.scope.names.lookup y=some .free)) (h:u9 N sc scope x N'=true) (htc:∀σ H Q,rdG RT K Er mc σ H Q->tc σ H Q)
  (hi:DE K Er X it mk) (hf:∀C s H fp,PF (zY X scope N' C s H fp) ifs tc) (he:∀C s H fp,DE K Er (zY X scope N' C s H fp) elt m)
  (hs:∀x,foldedSetIterable it X.env x=pure x:=by intro _;rfl):DF K Er X (.ListComp elt [⟨.Name x px,it,ifs,0⟩] scope pos) (yr mk mc m):=(z96 (z78 hc hN hcap h (z5U hi) hf he hs)).imp fun σ H Q h=>z1q htc h
end
noncomputable def lst(m:Nat):List Nat:=(List.range 8).filter fun i=>m.testBit i
noncomputable def tb0(led:Bool)(l:List Nat):SetTable:={ mask:=7,place:=l.toArray,dummies:=#[],finger:=0,led:=led,moves:=0,plain:=true }
noncomputable def tb1(led:Bool)(l:List Nat):SetTable:={ mask:=31,place:=l.toArray,dummies:=#[],finger:=0,led:=led,moves:=1,plain:=true }
noncomputable def tbl(led:Bool)(l:List Nat):SetTable:=if l.length<5 then tb0 led l else tb1 led l
noncomputable def ins(l:List Nat)(p x:Nat):List Nat:=l.take p++x::l.drop p
noncomputable def tEq(a b:SetTable):Bool:=a.mask == b.mask && a.place.toList == b.place.toList && a.dummies.toList == b.dummies.toList && a.finger == b.finger && a.led == b.led && a.moves == b.moves && a.plain == b.plain
theorem z8o{a b:SetTable}(h:tEq a b=true):a=b:=by
 cases a;cases b;simp only[tEq,Bool.and_eq_true,beq_iff_eq]at h;obtain⟨⟨⟨⟨⟨⟨h1,h2⟩,h3⟩,h4⟩,h5⟩,h6⟩,h7⟩:=h;have h2':=Array.toList_inj.mp h2;have h3':=Array.toList_inj.mp h3;subst h1 h2' h3' h4 h5 h6 h7;rfl
noncomputable def z8N(led:Bool)(m x:Nat):Bool:=
 let l:=lst m
 let t:=tbl led l
 let p:=SetTable.below t.place x
 let l':=lst (m ||| 2 ^ x)
 let t':=(t.put x).1
 m.testBit x || ((match t.freeSlot (x:Int)with | some (j,d)=>j == x && d == false | none=>false) && l' == ins l p x && (t.put x).2 == p && t'.plain == true && t'.fits (l.length+1) &&
  (if t'.tooFull then(match t'.relaid ((l'.map fun(i:Nat)=>(i:Int)).toArray) (SetTable.grown (l.length+1))with | some (t2,o)=>tEq t2 (tbl led l') && o.toList == List.range (l.length+1) && (tbl led l').fits (l.length+1) | none=>false)else tEq t' (tbl led l')))
theorem z40:∀led:Bool,∀m:Fin 256,∀x:Fin 8,z8N led m.1 x.1=true:=by decide +kernel
theorem z9Q:∀x:Fin 8,hashInt ((x.1:Nat):Int)=((x.1:Nat):Int):=by decide +kernel
noncomputable def nI(n:Nat):Int:=(n:Int)
def EsOf(es:Array (Int×Value))(l:List Nat):Prop:=es.toList.map (·.1)=l.map nI/\∀e∈es.toList,∃t,e.2=.int e.1 t
theorem EsOf.size{es:Array (Int×Value)}{l:List Nat}(h:EsOf es l):es.size=l.length:=by
 have:=congrArg List.length h.1;simpa using this
theorem z91{m i:Nat}(h:i∈lst m):i<8:=List.mem_range.mp (List.mem_filter.mp h).1
theorem z5c{m i:Nat}(hi:i<8):i∈lst m↔m.testBit i=true:=by
 unfold lst;rw[List.mem_filter];exact⟨fun h=>h.2,fun h=>⟨List.mem_range.mpr hi,h⟩⟩
theorem uj(m:Nat):(lst m).length<=8:=by
 unfold lst;exact Nat.le_trans (List.length_filter_le _ _) (by simp)
section
variable{prog:Program}{w:World}{A:Around}{E:Value->Shared->Prop}{s:Shared}
theorem EsOf.elems{es:Array (Int×Value)}{m:Nat}(h:EsOf es (lst m)):ElemsOf (intKind prog w) es.toList:=fun e he=>by
 obtain⟨t,ht⟩:=h.2 e he;have hm:e.1∈es.toList.map (·.1):=List.mem_map_of_mem he;rw[h.1]at hm;obtain⟨n,hn,e1⟩:=List.mem_map.mp hm;refine⟨⟨e.1,by rw[ht];exact intKind_is _ _ _ _,?_⟩,by rw[ht];rfl⟩;rw[<-e1];exact(z9Q ⟨n,z91 hn⟩).symm
def SetAt(h:Heap)(a:Addr)(led:Bool)(m:Nat):Prop:=∃o es ep,h.get? a=some o/\o.ExactSet/\o.data=.set es ep (tbl led (lst m))/\EsOf es (lst m)/\(tbl led (lst m)).fits es.size=true
theorem z1p:∀led:Bool,∀n:Fin 9,(tbl led (List.replicate n.1 0)).fits n.1=true:=by decide +kernel
theorem z0n(led:Bool)(m:Nat):(tbl led (lst m)).fits (lst m).length=true:=by
 have:=z1p led ⟨(lst m).length,Nat.lt_succ_of_le (uj m)⟩;revert this;unfold tbl SetTable.fits SetTable.fill;simp only[List.length_replicate];split<;>simp[tb0,tb1]
theorem EsOf.add{es:Array (Int×Value)}{l:List Nat}{p x:Nat}{t:Tok}(h:EsOf es l):EsOf (SetTable.insertAt es p (nI x,.int (nI x) t)) (ins l p x):=by
 refine⟨?_,fun e he=>?_⟩
 ·rw[SetTable.toList_insertAt,List.map_append,List.map_cons,List.map_take,List.map_drop,h.1];unfold ins;rw[List.map_append,List.map_cons,List.map_take,List.map_drop]
 ·rw[SetTable.toList_insertAt]at he;rcases List.mem_append.mp he with he | he
  ·exact h.2 e (List.mem_of_mem_take he)
  ·rcases List.mem_cons.mp he with rfl | he
   ·exact⟨t,rfl⟩
   ·exact h.2 e (List.mem_of_mem_drop he)
theorem z0W{h:Heap}{a:Addr}{o:Obj}{es:Array (Int×Value)}{ep:Nat}{t:SetTable}(es':Array (Int×Value))(t':SetTable)(ho:h.get? a=some o)(hd:o.data=.set es ep t):
  (h.update a (Obj.putSet es' t')).get? a=some { o with data:=.set es' (ep+1) t' }:=by
 have:=Heap.get?_update_self (Obj.putSet es' t') ho (by rw[putSet_of es' t' hd];rfl);rw[putSet_of es' t' hd]at this;exact this
theorem z9A{a:Addr}{led:Bool}{m x:Nat}{t:Tok}{Q:Bool->Shared->Prop}(hm:m<256)(hx:x<8)(hS:SetAt s.heap a led m)
  (h:∀h',Heap.SameBut a s.heap h'->SetAt h' a led (m ||| 2 ^ x)->Q (!m.testBit x) { s with heap:=h' }) :
  wpAny (model prog w) A (setAddHashed a (.int (nI x) t) (hashInt (nI x))) Q E s:=by
 obtain⟨o,es,ep,ho,hex,hd,he,hf⟩:=hS;have hsz:=he.size;have hln:=uj m;have hb:es.size<scanBound:=by unfold scanBound;omega
 have hel:ElemsOf (intKind prog w) es.toList:=he.elems;have hkey:(intKind prog w).is (nI x) (.int (nI x) t)=true:=intKind_is _ _ _ _;unfold setAddHashed setAddHashedIn;refine wpAny_holding (wpAny_bind (wpAny_setState_of ho hd hf ?_));dsimp only;rw[byScan_of rfl hb hel];simp only[↓reduceIte];unfold setAddByScan;refine wpAny_bind ?_;refine wpAny_bind (wpAny_rule ?_);refine wpAny_bind (wpAny_setScan_of (knd:=intKind prog w) hkey ho hd hf hel ?_);have memI:(∃e∈es.toList,(intKind prog w).is (nI x) e.2=true)↔m.testBit x=true:=by
  rw[<-z5c hx];constructor
  ·rintro⟨e,he1,he2⟩;obtain⟨t',e3⟩:=he.2 e he1;rw[e3]at he2;have e4:nI x=e.1:=(intKind prog w).inj _ _ _ he2 (intKind_is _ _ _ _);have h1:e.1∈es.toList.map (·.1):=List.mem_map_of_mem he1;rw[he.1]at h1;obtain⟨n,hn,e5⟩:=List.mem_map.mp h1
   have:n=x:=by unfold nI at e4 e5;omega
   rwa [<-this]
  ·intro hl;have h1:nI x∈es.toList.map (·.1):=by rw[he.1];exact List.mem_map_of_mem hl
   obtain⟨e,he1,e2⟩:=List.mem_map.mp h1;obtain⟨t',e3⟩:=he.2 e he1;exact⟨e,he1,by rw[e3,e2];exact intKind_is _ _ _ _⟩
 cases hr:List.findIdx? (fun e=>(intKind prog w).is (nI x) e.2) es.toList with
 | some j=>
  dsimp only;obtain⟨hj,hpj,_⟩:=List.findIdx?_eq_some_iff_getElem.mp hr;have hSk:m.testBit x=true:=memI.mp ⟨es.toList[j],List.getElem_mem hj,hpj⟩;refine wpAny_pure (wpAny_pure ?_);have e:s={ s with heap:=s.heap }:=by cases s;rfl
  have em:m ||| 2 ^ x=m:=by
   apply Nat.eq_of_testBit_eq;intro i;rw[Nat.testBit_or,Nat.testBit_two_pow];by_cases hi:x=i
   ·subst hi;rw[hSk];rfl
   ·simp[hi]
  have:=h s.heap (Heap.SameBut.refl a s.heap) (by rw[em];exact⟨o,es,ep,ho,hex,hd,he,hf⟩);rw[hSk]at this;rw[e];exact this
 | none=>
  dsimp only;have hSk:m.testBit x=false:=by
   cases hk:m.testBit x with
   | false=>rfl
   | true=>obtain⟨e,he1,hp⟩:=memI.mpr hk;have:=List.findIdx?_eq_none_iff.mp hr e he1;rw[hp]at this;exact Bool.noConfusion this
  have st:=z40 led ⟨m,hm⟩ ⟨x,hx⟩;simp only[z8N,hSk,Bool.false_or,Bool.and_eq_true]at st;obtain⟨⟨⟨⟨⟨s1,s2⟩,s3⟩,s4⟩,s5⟩,s6⟩:=st;have fs:(tbl led (lst m)).freeSlot (hashInt (nI x))=some (x,false):=by
   rw[show hashInt (nI x)=((x:Nat):Int) from z9Q ⟨x,hx⟩];split at s1
   next j d e=>
    simp only[Bool.and_eq_true,beq_iff_eq]at s1;rw[e,s1.1,s1.2]
   next=>cases s1
  have e2:=beq_iff_eq.mp s2;have e3:=beq_iff_eq.mp s3;have e4:=beq_iff_eq.mp s4;have hxx:hashInt (nI x)=nI x:=z9Q ⟨x,hx⟩;generalize hp:SetTable.below (tbl led (lst m)).place x=p at *;generalize hput:(tbl led (lst m)).put x=pt at *;obtain⟨t1,p1⟩:=pt;simp only at e3 e4 s5 s6;subst e3;have he1:EsOf (SetTable.insertAt es p1 (nI x,.int (nI x) t)) (lst (m ||| 2 ^ x)):=by rw[e2];exact he.add
  have hsz1:(SetTable.insertAt es p1 (nI x,Value.int (nI x) t)).size=(lst m).length+1:=by
   rw[he1.size,e2];unfold ins;simp;omega
  have hlay:layNew (tbl led (lst m)) es (hashInt (nI x)) (.int (nI x) t)=(SetTable.insertAt es p1 (nI x,.int (nI x) t),t1,false,false):=by
   unfold layNew;rw[fs];simp only[hput];rw[hxx,hsz1,SetTable.orStandIn,s5];rfl
  rw[hlay];dsimp only;refine wpAny_bind (wpAny_pure ?_);rw[e4];simp only[↓reduceIte];refine wpAny_bind ?_;rw[hashByValue_scannable 8 (x:=.int (nI x) t) rfl];refine wpAny_pure ?_;simp only[plainKind,↓reduceIte];have hz1:(SetTable.insertAt es p1 (nI x,Value.int (nI x) t)).size<=sizeLine:=by rw[hsz1,sizeLine_eq];omega
  refine wpAny_bind (wpAny_storeSet_of ho hd ?_ hz1);have g1:=z0W (SetTable.insertAt es p1 (nI x,.int (nI x) t)) t1 ho hd;have sb1:=Heap.SameBut.update s.heap a (Obj.putSet (SetTable.insertAt es p1 (nI x,Value.int (nI x) t)) t1);have hl1:=he1.size;cases htf:t1.tooFull with
  | false=>
   rw[htf]at s6;simp only[Bool.false_eq_true,↓reduceIte]at s6;have et:=z8o s6;simp only[Bool.not_false,Bool.true_and,Bool.false_eq_true,↓reduceIte];refine wpAny_pure (wpAny_pure ?_)
   have:=h _ sb1 ⟨_,_,_,g1,hex,by rw[et],he1,by rw[hl1];exact z0n _ _⟩;rw[hSk]at this;exact this
  | true=>
   rw[htf]at s6;simp only[↓reduceIte]at s6;have hmapk:(SetTable.insertAt es p1 (nI x,Value.int (nI x) t)).map (·.1)=((lst (m ||| 2 ^ x)).map fun(i:Nat)=>(i:Int)).toArray:=by
    apply Array.toList_inj.mp;rw[Array.toList_map,he1.1];rfl
   have hrl:relayAll t1 (SetTable.insertAt es p1 (nI x,Value.int (nI x) t)) (SetTable.grown (SetTable.insertAt es p1 (nI x,Value.int (nI x) t)).size)=(SetTable.insertAt es p1 (nI x,Value.int (nI x) t),tbl led (lst (m ||| 2 ^ x)),false):=by
    unfold relayAll;rw[hmapk,hsz1];split at s6
    next t2 od e=>
     simp only[Bool.and_eq_true,beq_iff_eq]at s6;rw[e];have et:=z8o s6.1.1;have eo:od=(List.range ((lst m).length+1)).toArray:=by rw[<-s6.1.2]
     have ef:od.filterMap (fun x_1=>(SetTable.insertAt es p1 (nI x,Value.int (nI x) t))[x_1]?)=SetTable.insertAt es p1 (nI x,Value.int (nI x) t):=by
      apply Array.toList_inj.mp;rw[Array.toList_filterMap,s6.1.2,<-hsz1];exact filterMap_getElem?_range _
     dsimp only;rw[ef,hsz1,et,s6.2];have ec:coversAll od ((lst m).length+1)=true:=by
      unfold coversAll;rw[s6.1.2];exact List.isPerm_iff.mpr (List.Perm.refl _)
     rw[ec];rfl
    next=>cases s6
   simp only[Bool.not_false,Bool.true_and,↓reduceIte];rw[hrl];dsimp only;refine wpAny_bind (wpAny_pure ?_);refine wpAny_bind (wpAny_storeSet_of g1 rfl ?_ hz1);have g2:=z0W (SetTable.insertAt es p1 (nI x,.int (nI x) t)) (tbl led (lst (m ||| 2 ^ x))) g1 rfl;refine wpAny_pure (wpAny_pure ?_)
   have:=h _ (sb1.trans (Heap.SameBut.update _ a _)) ⟨_,_,_,g2,hex,rfl,he1,by rw[hl1];exact z0n _ _⟩;rw[hSk]at this;exact this
end
noncomputable def mOf(val:Nat->Nat):Nat->Nat
 | 0=>0
 | i+1=>mOf val i ||| 2 ^ val i
theorem z5u{val:Nat->Nat}:∀{n:Nat},(∀i,i<n->val i<8)->mOf val n<256
 | 0,_=>by show 0<256;decide
 | n+1,h=>by
  have h1:=z5u (n:=n) fun i hi=>h i (Nat.lt_succ_of_lt hi);have h2:2 ^ val n<2 ^ 8:=Nat.pow_lt_pow_right (by decide) (h n (Nat.lt_succ_self n));exact Nat.or_lt_two_pow (n:=8) h1 h2
theorem z5f{val:Nat->Nat}(x:Nat):∀{n:Nat},(mOf val n).testBit x=true↔∃i,i<n/\val i=x
 | 0=>by simp[mOf]
 | n+1=>by
  rw[mOf,Nat.testBit_or,Nat.testBit_two_pow,Bool.or_eq_true,z5f x,decide_eq_true_eq];constructor
  ·rintro(⟨i,hi,e⟩ | e)
   ·exact⟨i,Nat.lt_succ_of_lt hi,e⟩
   ·exact⟨n,Nat.lt_succ_self n,e⟩
  ·rintro⟨i,hi,e⟩;by_cases h:i=n
   ·subst h;exact .inr e
   ·exact .inl ⟨i,by omega,e⟩
theorem SetAt.at{h h':Heap}{a:Addr}{led:Bool}{m:Nat}(x:SetAt h a led m)(e:∀o,h.get? a=some o->h'.get? a=some o):SetAt h' a led m:=by
 obtain⟨o,es,ep,ho,r⟩:=x;exact⟨o,es,ep,e _ ho,r⟩
section
variable{prog:Program}{w:World}{A:Around}{R:Result->Shared->Prop}{I:Addr}{fp wr:List Addr}{G:Array GenState->Array GenState->Prop}{n:Nat}{P:Nat->Value->Prop}{St:Nat->Shared->Prop}
theorem zCj(W:WalksS prog w A.in1 I fp wr G n P St)(S:Addr)(hSf:S∉fp)(val:Nat->Nat){led:Bool}
  (hval:∀i v,P i v->∃t,v=.int (nI (val i)) t) (h8:∀i,i<n->val i<8) :
  ∀(k i:Nat) (s:Shared),n - i=k->i<=n->St i s->SetAt s.heap S led (mOf val i)->
   (∀s',Moved (S::wr) G s s'->SetAt s'.heap S led (mOf val n)->R (.ok (.ret .none)) s')->
   codeAny (model prog w) A (.builtin "set.update.loop" ⟨[.ref S,.ref I],[]⟩) R s:=by
 have hSw:S∉wr:=fun h=>hSf (W.sub _ h);have hsub:∀b∈wr,b∈S::wr:=fun b hb=>List.mem_cons_of_mem _ hb;intro k
 induction k with
 | zero=>
  intro i s hk hi hst hS hR;obtain rfl:i=n:=by omega
  refine codeAny_builtin PyProof.Rows.F.entry_set_update_loop ?_;rw[Around.under_plainId PyProof.Rows.F.plain_set_update_loop _];show wpAny _ A.in1 (pyNext (.ref I) >>= _) _ _ s;refine wpAny_bind (W.done s _ _ hst fun s' hm=>?_);show wpAny _ A.in1 (ret Value.none) _ _ s';exact wpAny_pure (hR s' (hm.mono hsub) (hS.at fun o e=>hm.heap S _ hSw e))
 | succ k ih=>
  intro i s hk hi hst hS hR;have hlt:i<n:=by omega
  refine codeAny_builtin PyProof.Rows.F.entry_set_update_loop ?_;rw[Around.under_plainId PyProof.Rows.F.plain_set_update_loop _];show wpAny _ A.in1 (pyNext (.ref I) >>= _) _ _ s;refine wpAny_bind (W.item i s _ _ hlt hst fun v s' hP hst' hm=>?_);obtain⟨t,rfl⟩:=hval i v hP;have hS':SetAt s'.heap S led (mOf val i):=hS.at fun o e=>hm.heap S _ hSw e;show wpAny _ A.in1 (holding [Value.int (nI (val i)) t] (setAdd S (.int (nI (val i)) t)) >>= _) _ _ s';refine wpAny_bind (wpAny_holding ?_);unfold setAdd;refine wpAny_holding ?_;refine wpAny_bind (wpAny_pyHash_int ?_);refine z9A (s:={ s' with toks:=s'.toks+1 }) (z5u fun j hj=>h8 j (by omega)) (h8 i hlt) hS' fun h' hsb hS2=>?_;refine wpAny_pure ⟨plainId_quiet PyProof.Rows.F.plain_set_update_loop _,ih (i+1) _ (by omega) hlt (W.frame _ s' _ _ hst' (Nat.le_succ _) fun b hb o e=>?_) hS2 fun s'' hm'' hS''=>?_⟩
  ·rw[hsb.2 b (fun h:b=S=>hSf (by rw[<-h];exact hb))];exact e
  ·refine hR s'' (Moved.trans W.gtrans ((hm.mono hsub).then_heap (Nat.le_succ _) fun b o hb e=>?_) hm'') hS'';rw[hsb.2 b (fun h:b=S=>hb (by rw[h];exact List.mem_cons_self))];exact e
end
section
variable{prog:Program}{w:World}{A:Around}{E:Value->Shared->Prop}{s:Shared}
noncomputable abbrev zr(w:World):Bool:=!w.params.followText "set-order"
noncomputable abbrev oSet(led:Bool):Obj:={ cls:=.type "set",dict:=none,data:=.set #[] 0 (.fresh 0 0 led) }
theorem z4n(a:Value){Q₁:Value->Shared->Prop}(h:Q₁ (.ref s.heap.objs.size) { s with heap:=s.heap.push (oSet (zr w)) }):
  codeAny (model prog w) A (.call (.builtin "set.__new__") ⟨[.type "set",a],[]⟩) (wants Q₁ E) s:=by
 refine codeAny_of_tree ?_;show wpAny _ A.in1 (do checkBuiltinCall "set.__new__" ⟨[.type "set",a],[]⟩;again (.builtin "set.__new__" ⟨[.type "set",a],[]⟩)) _ _ s;refine wpAny_bind (wpAny_of_eq (PySem.F.newCall_set_1 a) (wpAny_pure ⟨plainId_quiet PySem.F.plain_set_new _,codeAny_builtin PySem.F.entry_set_new ?_⟩));rw[Around.under_plainId PySem.F.plain_set_new _];unfold Builtin.«set.__new__» Builtin.Frozenset.newClass;have hsub:=sub_set_self;obtain⟨hp,g,d,tk,os⟩:=s;dsimp only
 wp_walk
 refine wpAny_askSetting (wpAny_pure ?_);dsimp only;simp only[newObj];refine wpAny_bind (wpAny_alloc (wpAny_pure ?_));exact wpAny_pure h
theorem z5p{h:Heap}{a:Addr}{led:Bool}(e:h.get? a=some (oSet led)):SetAt h a led 0:=by
 have h0:lst 0=[]:=by decide
 refine⟨_,#[],0,e,⟨rfl,rfl,rfl⟩,?_,?_,?_⟩
 ·rw[h0];rfl
 ·rw[h0];exact⟨rfl,fun e he=>nomatch he⟩
 ·have:=z0n led 0;rw[h0]at this |-;exact this
theorem z5e{l:Addr}{items:Array Value}{val:Nat->Nat}{Q:Value->Shared->Prop}
  (hh:A.handled=none) (hl:s.heap.IsList l items) (hv:∀(i:Nat) (v:Value),items[i]?=some v->∃t,v=.int (nI (val i)) t) (h8:∀i,i<items.size->val i<8)
  (h:∀(h':Heap) (tk:Nat),SetAt h' s.heap.objs.size (zr w) (mOf val items.size)->(∀b o,s.heap.get? b=some o->h'.get? b=some o)->Q (.ref s.heap.objs.size) { s with heap:=h',toks:=tk }) :
  wpAny (model prog w) A (call (.type "set") [.ref l]) Q E s:=by
 obtain⟨c,tl,hmro⟩:=PySem.F.called_set.mro;have hmade:=PySem.F.called_set.made;have hsub:=PySem.F.called_set.sub;refine wpAny_call (codeAny_of_tree ?_);show wpAny _ _ (callAny (.type "set") _) _ _ _;refine wpAny_pure ⟨Code.quiet_builtin _ (by decide +kernel),codeAny_builtin PySem.F.entry_type_call ?_⟩;rw[Around.under_plain (weight_type_call_type "set" [.ref l] []) rfl];have h1:=PySem.F.called_set.notType;have h2:=PySem.F.called_set.canCreate;have hct:=PySem.F.typeCall_set_1 (.ref l)
 repeat (any_goals (first | assumption | wp_step))
 refine codeAny_mono (z4n (.ref l) (E:=E) (Q₁:=fun obj s₁=>obj=.ref s.heap.objs.size/\s₁={ s with heap:=s.heap.push (oSet (zr w)) }) ⟨rfl,rfl⟩) fun r s₁ hr=>?_;cases r with
 | error e=>exact hr
 | ok fl=>
  cases fl with
  | ret obj=>
   obtain⟨rfl,rfl⟩:=hr;have hS:(s.heap.push (oSet (zr w))).get? s.heap.objs.size=some (oSet (zr w)):=Heap.get?_push_size _ rfl;have hT:Shared.TypeIs { s with heap:=s.heap.push (oSet (zr w)) } (.ref s.heap.objs.size) "set":=⟨_,hS,rfl⟩;have hli:=PySem.F.called_set.init.lookup;have hbi:=PySem.F.called_set.init.bind (.ref s.heap.objs.size)
   repeat (any_goals (first | assumption | wp_step))
   refine codeAny_mono (codeAny_call_builtin (R:=wants (fun r s₂=>r=.none/\∃h' tk,s₂={ s with heap:=h',toks:=tk }/\SetAt h' s.heap.objs.size (zr w) (mOf val items.size)/\
     (∀b o,s.heap.get? b=some o->h'.get? b=some o)) E) PySem.F.called_set.init.plain PySem.F.entry_set_init (check_set_init_1 hT ?_)) fun r₂ s₂ hr₂=>?_
   ·obtain⟨ol,hol,hcl,nl,hdl⟩:=hl;obtain⟨ocls,odict,odata,oslots⟩:=ol;simp only at hcl hdl;subst hcl;subst hdl;have hol':(s.heap.push (oSet (zr w))).get? l=some { cls:=.type "list",dict:=odict,data:=.seq items nl,slots:=oslots }:=Heap.get?_push_of_some _ hol;have hsls:=PySem.F.sub_list_set;have hslf:=PySem.F.sub_list_frozenset;have hne:(Value.type "list" == Value.type "dict")=false:=by decide
    have hl1:(s.heap.push (oSet (zr w))).IsList l items:=⟨_,hol',rfl,nl,rfl⟩;unfold Builtin.«set.__init__» noKeywords Builtin.Frozenset.updateFrom;generalize hPI:pyIter=PI
    wp_walk
    subst hPI;refine wpAny_pyIter_list hl1 ?_;refine wpAny_bind (wpAny_runValue ?_);have hlS:l<s.heap.objs.size:=Heap.lt_size hol;have hh3:A.in1.in1.in1.handled=none:=by simp[hh]
    have hneI:l≠(s.heap.push (oSet (zr w))).objs.size:=by
     rw[Heap.size_push];exact Nat.ne_of_lt (Nat.lt_succ_of_lt hlS)
    have hSf:s.heap.objs.size∉[(s.heap.push (oSet (zr w))).objs.size,l]:=by
     rw[Heap.size_push];simp only[List.mem_cons,List.mem_singleton,List.not_mem_nil,or_false,not_or];exact⟨Nat.ne_of_lt (Nat.lt_succ_self _),Nat.ne_of_gt hlS⟩
    refine zCj ((Walks.list hh3 _ l hneI items).toS) s.heap.objs.size hSf val (led:=zr w) hv h8 (items.size - 0) 0 _ (by omega) (Nat.zero_le _)
     ⟨⟨_,Heap.get?_push_size _ rfl,rfl,rfl⟩,(hl1.push _)⟩ (z5p (Heap.get?_push_of_some _ hS)) ?hR
    case hR=>
     intro s' hm hS';obtain⟨h',g',d',tk',os'⟩:=s';have eg:g'=s.gens:=hm.gens;have ed:d'=s.drawn:=hm.drawn;have eo:os'=s.os:=hm.os;subst eg;subst ed;subst eo;show wpAny _ _ _ _ _ _;refine wpAny_pure ?_;show wpAny _ _ (ret Value.none) _ _ _;refine wpAny_pure ⟨rfl,h',tk',rfl,hS',fun b o e=>?_⟩;have hb:=Heap.lt_size e;have hb1:b≠s.heap.objs.size:=Nat.ne_of_lt hb;have hb2:b≠(s.heap.push (oSet (zr w))).objs.size:=by
      rw[Heap.size_push];exact Nat.ne_of_lt (Nat.lt_succ_of_lt hb)
     exact hm.heap b o (by simp only[List.mem_cons,List.mem_singleton,List.not_mem_nil,or_false,not_or];exact⟨hb1,hb2⟩) (Heap.get?_push_of_some _ (Heap.get?_push_of_some _ e))
   ·cases r₂ with
    | error e=>exact hr₂
    | ok fl₂=>
     cases fl₂ with
     | ret r=>
      obtain⟨rfl,h',tk,rfl,hS',hk'⟩:=hr₂
      repeat (any_goals (first | assumption | wp_step))
      exact h _ _ hS' hk'
     | next=>exact hr₂.elim
     | brk=>exact hr₂.elim
     | cont=>exact hr₂.elim
  | next=>exact hr.elim
  | brk=>exact hr.elim
  | cont=>exact hr.elim
end
theorem si_slot_next:Slot "set_iterator" "__next__" "set_iterator.__next__":=
 .of (owner:="set_iterator") (n:="__next__") (by rw[typeLookup_type,builtinLookup_eq_fast];kernel_rfl) (by decide +kernel) (by decide +kernel) (by decide +kernel)
  (by first | exact .inl (by decide +kernel) | exact .inr (by decide +kernel)) (by rw[isSubtype_type];kernel_rfl)
theorem wz:Slot "set_iterator" "__iter__" "set_iterator.__iter__":=
 .of (owner:="set_iterator") (n:="__iter__") (by rw[typeLookup_type,builtinLookup_eq_fast];kernel_rfl) (by decide +kernel) (by decide +kernel) (by decide +kernel)
  (by first | exact .inl (by decide +kernel) | exact .inr (by decide +kernel)) (by rw[isSubtype_type];kernel_rfl)
theorem yo:entryFor table "set_iterator.__next__"=some Builtin.«set_iterator.__next__»:=entryFor_of_tree (by kernel_rfl)
theorem z1E:entryFor table "set_iterator.__iter__"=some Builtin.«dict_keyiterator.__iter__»:=
 entryFor_alias (id':="dict_keyiterator.__iter__") (by kernel_rfl) rfl (by decide +kernel) (by kernel_rfl)
theorem xA(a:Value):argsOk "set_iterator.__next__" ⟨[a],[]⟩:=by unfold argsOk;kernel_rfl
theorem z1I(a:Value):argsOk "set_iterator.__iter__" ⟨[a],[]⟩:=by unfold argsOk;kernel_rfl
theorem wy:entryFor table "set.__iter__"=some Builtin.«frozenset.__iter__»:=
 entryFor_alias (id':="frozenset.__iter__") (by kernel_rfl) rfl (by decide +kernel) (by kernel_rfl)
theorem z6J{α:Type}(next:Nat->Nat):∀(fuel k:Nat) (left:List α) (out:Array α),left.length<=fuel->(pickOrder.go next fuel k left out).toList.Perm (out.toList++left)
 | 0,k,left,out,h=>by
  obtain rfl:left=[]:=List.eq_nil_of_length_eq_zero (by omega);simp[pickOrder.go]
 | fuel+1,k,left,out,h=>by
  unfold pickOrder.go;cases e:left[next k % left.length]? with
  | none=>
   have:left=[]:=by
    cases left with
    | nil=>rfl
    | cons a l=>
     rw[List.getElem?_eq_none_iff]at e
     have:=Nat.mod_lt (next k) (y:=(a::l).length) (by simp);omega
   subst this;simp
  | some x=>
   obtain⟨hi,ex⟩:=List.getElem?_eq_some_iff.mp e;refine(z6J next fuel (k+1) _ _ ?_).trans ?_
   ·rw[List.length_eraseIdx];simp[hi];omega
   ·rw[Array.toList_push,List.append_assoc];refine List.Perm.append_left _ ?_;rw[<-ex];have e3:left=left.take (next k % left.length)++left[next k % left.length]::left.drop (next k % left.length+1):=by
     conv=>lhs;rw[<-List.take_append_drop (next k % left.length) left,List.drop_eq_getElem_cons hi]
    rw[List.eraseIdx_eq_take_drop_succ];have e4:=List.perm_middle (a:=left[next k % left.length]) (l₁:=left.take (next k % left.length)) (l₂:=left.drop (next k % left.length+1));rw[<-e3]at e4;exact e4.symm
theorem z6K{α:Type}(next:Nat->Nat)(xs:Array α):(pickOrder next xs).toList.Perm xs.toList:=by
 have:=z6J next xs.size 0 xs.toList #[] (by simp)
 simpa[pickOrder]using this
noncomputable def xG(l:List Nat)(i:Nat):Nat:=if i=0 then 0 else l.getD (i - 1) 0+1
theorem z4o:∀m:Fin 256,∀i:Fin 9,(decide (i.1<=(lst m.1).length))=true->SetTable.below (lst m.1).toArray (xG (lst m.1) i.1)=i.1:=by decide +kernel
theorem z5N(led:Bool)(l:List Nat):(tbl led l).place=l.toArray:=by unfold tbl;split<;>rfl
theorem zAF(led:Bool)(l:List Nat):(tbl led l).led=led:=by unfold tbl;split<;>rfl
theorem z2B(led:Bool)(l:List Nat):(tbl led l).plain=true:=by unfold tbl;split<;>rfl
section
variable{prog:Program}{w:World}{A:Around}{E:Value->Shared->Prop}{s:Shared}
def SetIs(h:Heap)(a:Addr)(led:Bool)(m:Nat)(es:Array (Int×Value))(ep:Nat):Prop:=∃o,h.get? a=some o/\o.ExactSet/\o.data=.set es ep (tbl led (lst m))/\EsOf es (lst m)/\(tbl led (lst m)).fits es.size=true
noncomputable def yZ(w:World)(S ep:Nat)(es:Array (Int×Value)):Array (Int×Value):=if w.params.followText "set-order"=true then pickOrder (w.params.setOrder S ep) es else es
theorem yz(w:World)(S ep:Nat)(es:Array (Int×Value)):(yZ w S ep es).toList.Perm es.toList:=by
 unfold yZ;split
 ·exact z6K _ _
 ·exact .refl _
noncomputable def slOf(w:World)(l:List Nat)(i:Nat):Nat:=if w.params.followText "set-order"=true then 0 else xG l i
theorem z36{a:Addr}{m ep i:Nat}{es:Array (Int×Value)}{Q:Option (Value×Nat)->Shared->Prop}(hm:m<256)(hi:i<=es.size)(hS:SetIs s.heap a (!w.params.followText "set-order") m es ep)
  (h:Q ((yZ w a ep es)[i]?.map fun e=>(e.2,slOf w (lst m) (i+1))) s):wpAny (model prog w) A (setNext a (slOf w (lst m) i) i ep) Q E s:=by
 obtain⟨o,ho,hex,hd,he,hf⟩:=hS;unfold setNext;refine wpAny_bind (wpAny_setState_of ho hd hf ?_);dsimp only;unfold setsByText;refine wpAny_bind (wpAny_bind (wpAny_askSetting (wpAny_pure ?_)));show wpAny _ _ (if w.params.followText "set-order"=true then _ else _) _ _ s;cases hb:w.params.followText "set-order" with
 | true=>
  simp only[↓reduceIte,bne_self_eq_false,Bool.false_eq_true];unfold setWalk;refine wpAny_bind (wpAny_bind (wpAny_setState_of ho hd hf ?_));dsimp only;unfold setsByText;refine wpAny_bind (wpAny_bind (wpAny_askSetting (wpAny_pure ?_)));show wpAny _ _ (if w.params.followText "set-order"=true then _ else _) _ _ s;rw[hb];simp only[↓reduceIte];refine wpAny_bind (wpAny_askSetting (wpAny_pure (wpAny_pure ?_)));simp only[yZ,slOf,hb,↓reduceIte]at h |-;exact h
 | false=>
  simp only[Bool.false_eq_true,↓reduceIte];split
  next hdr=>
   have:(!(tbl (!false) (lst m)).plain && decide (es.size>1))=true:=hdr;rw[z2B]at this;simp at this
  next hdr=>
   refine wpAny_bind ?_;show wpAny _ _ (if (!(tbl (!false) (lst m)).led && !es.isEmpty)=true then unsupported "set:maker-not-led" else pure ()) _ _ s;rw[zAF];simp only[Bool.not_false,Bool.not_true,Bool.false_and,Bool.false_eq_true,↓reduceIte];refine wpAny_pure (wpAny_pure ?_);simp only[yZ,slOf,hb,Bool.false_eq_true,↓reduceIte]at h |-;rw[z5N];have hln:=uj m;have hsz:=he.size;rw[z4o ⟨m,hm⟩ ⟨i,by omega⟩ (decide_eq_true (by show i<=(lst m).length;omega))];by_cases hlt:i<es.size
   ·have e1:es[i]?=some es[i]:=Array.getElem?_eq_getElem hlt;have hl2:i<(lst m).length:=by omega
    have e2:(lst m).toArray[i]?=some (lst m)[i]:=by simp[hl2]
    rw[e1,e2];rw[e1]at h;have e3:xG (lst m) (i+1)=(lst m)[i]+1:=by
     unfold xG;rw[if_neg (Nat.succ_ne_zero i),Nat.add_sub_cancel,List.getD_eq_getElem?_getD,List.getElem?_eq_getElem hl2];rfl
    rw[e3]at h;exact h
   ·have e1:es[i]?=none:=Array.getElem?_eq_none (by omega);rw[e1]at h |-;exact h
end
section
variable{prog:Program}{w:World}{A:Around}{E:Value->Shared->Prop}{s:Shared}
theorem SetIs.at{h h':Heap}{a:Addr}{led:Bool}{m ep:Nat}{es:Array (Int×Value)}(x:SetIs h a led m es ep)(e:∀o,h.get? a=some o->h'.get? a=some o):SetIs h' a led m es ep:=by
 obtain⟨o,ho,r⟩:=x;exact⟨o,e _ ho,r⟩
def IsSI(h:Heap)(I S n ep sl i:Nat):Prop:=∃o,h.get? I=some o/\o.cls=.type "set_iterator"/\o.data=.fields #[.int (sl:Int) 0,.int (i:Int) 0,.ref S,.int (n:Int) 0,.int (ep:Int) 0]
theorem IsSI.typeIs{I S n ep sl i:Nat}(x:IsSI s.heap I S n ep sl i):s.TypeIs (.ref I) "set_iterator":=let⟨o,ho,hc,_⟩:=x;⟨o,ho,hc⟩
theorem z9y{I S m ep i:Nat}{es:Array (Int×Value)}{x:Int×Value}{Q:Option Value->Shared->Prop}(hm:m<256)(hi:i<es.size)(hit:IsSI s.heap I S es.size ep (slOf w (lst m) i) i)(hS:SetIs s.heap S (zr w) m es ep)(hx:(yZ w S ep es)[i]?=some x)
  (hQ:∀h',IsSI h' I S es.size ep (slOf w (lst m) (i+1)) (i+1)->Heap.SameBut I s.heap h'->Q (some x.2) { s with heap:=h' }):wpAny (model prog w) A (pyNext (.ref I)) Q E s:=by
 obtain⟨o,ho,hc,hd⟩:=id hit;unfold pyNext;refine wpAny_bind (wpAny_attempt (wpAny_callSpecial?_slot (name:=Str.ofString "__next__") hit.typeIs si_slot_next (wpAny_call_entry si_slot_next hit.typeIs yo ?_ (xA _))));show wpAny _ _ (fieldsOf (.ref I) >>= _) _ _ s;refine wpAny_bind (wpAny_fieldsOf ho hd ?_);dsimp only;obtain⟨oS,hoS,hexS,hdS,heS,hfS⟩:=id hS;show wpAny _ _ (setEntries S >>= _) _ _ s;refine wpAny_bind (wpAny_setEntries_of hoS hdS hfS ?_);rw[if_neg (by simp)];show wpAny _ _ (setNext S ((slOf w (lst m) i:Nat):Int).toNat ((i:Nat):Int).toNat ((ep:Nat):Int).toNat >>= _) _ _ s;simp only[Int.toNat_natCast];refine wpAny_bind (z36 hm (Nat.le_of_lt hi) hS ?_);rw[hx];dsimp only[Option.map_some];refine wpAny_bind (wpAny_setField ho hd (by simp) ?_);have g1:(s.heap.update I (Obj.mapFields (·.setIfInBounds 0 (rawInt (slOf w (lst m) (i+1)))))).get? I=some _:=Heap.get?_update_self _ ho (Obj.isFreed_of_fields (Obj.data_mapFields hd _));refine wpAny_bind (wpAny_setField g1 (Obj.data_mapFields hd _) (by simp) (wpAny_pure ⟨x.2,rfl,wpAny_pure (hQ _ ?_ ((Heap.SameBut.update ..).trans (Heap.SameBut.update ..)))⟩));refine⟨_,Heap.get?_update_self _ g1 (Obj.isFreed_of_fields (Obj.data_mapFields (Obj.data_mapFields hd _) _)),(Obj.cls_mapFields ..).trans ((Obj.cls_mapFields ..).trans hc),?_⟩;rw[Obj.data_mapFields (Obj.data_mapFields hd _)];simp[rawInt]
theorem zB1{I S m ep:Nat}{es:Array (Int×Value)}{Q:Option Value->Shared->Prop}(hh:A.handled=none)(hm:m<256)(hit:IsSI s.heap I S es.size ep (slOf w (lst m) es.size) es.size)(hS:SetIs s.heap S (zr w) m es ep)
  (hQ:∀h',Heap.ExtBut I s.heap h'->Q none { s with heap:=h' }):wpAny (model prog w) A (pyNext (.ref I)) Q E s:=by
 obtain⟨o,ho,hc,hd⟩:=id hit;unfold pyNext;refine wpAny_bind (wpAny_attempt (wpAny_callSpecial?_slot (name:=Str.ofString "__next__") hit.typeIs si_slot_next (wpAny_call_entry si_slot_next hit.typeIs yo ?_ (xA _))));show wpAny _ _ (fieldsOf (.ref I) >>= _) _ _ s;refine wpAny_bind (wpAny_fieldsOf ho hd ?_);dsimp only;obtain⟨oS,hoS,hexS,hdS,heS,hfS⟩:=id hS;show wpAny _ _ (setEntries S >>= _) _ _ s;refine wpAny_bind (wpAny_setEntries_of hoS hdS hfS ?_);rw[if_neg (by simp)];show wpAny _ _ (setNext S ((slOf w (lst m) es.size:Nat):Int).toNat ((es.size:Nat):Int).toNat ((ep:Nat):Int).toNat >>= _) _ _ s;simp only[Int.toNat_natCast];refine wpAny_bind (z36 hm (Nat.le_refl _) hS ?_);have hx:(yZ w S ep es)[es.size]?=none:=by
  have:=(yz w S ep es).length_eq;exact Array.getElem?_eq_none (by simpa using Nat.le_of_eq this)
 rw[hx];dsimp only[Option.map_none];refine wpAny_bind (wpAny_setField ho hd (by simp) ?_);show wpAny _ _ (newExc (.type "StopIteration") [] >>= _) _ _ _;refine wpAny_bind ?_;simp only[newExc,newTuple];refine wpAny_bind (wpAny_newObj_type ?_ (by size_fits));refine wpAny_bind (m:=firstArgMember _ _) (wpAny_of_eq (a:=Value.none) (by first | rfl | (simp only[firstArgMember];rfl)) ?_);refine wpAny_newObj_type ?_ (by size_fits);simp only[raiseNew];refine wpAny_bind (wpAny_handled ?_);rw[show A.in1.handled=none from hh];refine wpAny_bind (wpAny_pure (wpAny_throw ?_));refine wpAny_bind (wpAny_isInstance (T:="StopIteration") (b:=true) ⟨_,Heap.get?_push_size _ rfl,rfl⟩ isSubtype_stop ?_);exact wpAny_pure (hQ _ (((Heap.SameBut.update ..).extBut.push _).push _))
theorem z4q{I S n ep sl i:Nat}{Q:Value->Shared->Prop}(hit:IsSI s.heap I S n ep sl i)(h:Q (.ref I) s):wpAny (model prog w) A (pyIter (.ref I)) Q E s:=by
 refine wpAny_pyIter_slot hit.typeIs wz (wpAny_call_entry wz hit.typeIs z1E ?_ (z1I _));show wpAny _ _ (ret (.ref I)) _ _ s;exact wpAny_pure ⟨_,rfl,"set_iterator",_,hit.typeIs,si_slot_next.lookup,h⟩
theorem zBd(hh:A.handled=none)(I S:Addr)(hne:S≠I){m ep:Nat}{es:Array (Int×Value)}(hm:m<256):
  PySem.Walks prog w A I [I,S] [I] es.size (fun i v=>((yZ w S ep es)[i]?.map (·.2))=some v) (fun i h=>IsSI h I S es.size ep (slOf w (lst m) i) i/\SetIs h S (zr w) m es ep) where
 sub:=fun b hb=>by simp at hb;simp[hb]
 frame:=fun _ _ _ st hk=>⟨let⟨o,ho,r⟩:=st.1;⟨o,hk I (by simp) o ho,r⟩,st.2.at fun o e=>hk S (by simp) o e⟩
 item:=fun i s Q E hi st hQ=>by
  have hl:=(yz w S ep es).length_eq;have hi':i<(yZ w S ep es).size:=by simpa using (by rw[Array.length_toList,Array.length_toList]at hl;omega:i<(yZ w S ep es).size)
  refine z9y hm hi st.1 st.2 (x:=(yZ w S ep es)[i]) (Array.getElem?_eq_getElem hi') fun h' hit' hs'=>?_;exact hQ _ h' s.toks (by rw[Array.getElem?_eq_getElem hi'];rfl) ⟨hit',st.2.at fun o e=>hs'.extBut S o hne e⟩ fun b o hb e=>hs'.extBut b o (fun h=>hb (by simp[h])) e
 done:=fun s Q E st hQ=>zB1 hh hm st.1 st.2 fun h' he'=>hQ h' s.toks fun b o hb e=>he' b o (fun h=>hb (by simp[h])) e
 self:=fun _ _ _ _ st hQ=>z4q st.1 hQ
theorem zD1{S m ep:Nat}{es:Array (Int×Value)}{Q:Value->Shared->Prop}(hS:SetIs s.heap S (zr w) m es ep)
  (hQ:Q (.ref s.heap.objs.size) { s with heap:=s.heap.push { cls:=.type "set_iterator",data:=.fields #[.int 0 0,.int 0 0,.ref S,.int (es.size:Int) 0,.int (ep:Int) 0] } }):wpAny (model prog w) A (pyIter (.ref S)) Q E s:=by
 obtain⟨o,ho,hex,hd,he,hf⟩:=hS;have hT:s.TypeIs (.ref S) "set":=⟨o,ho,hex.1⟩;refine wpAny_pyIter_slot hT F.slot_set_iter (wpAny_call_entry F.slot_set_iter hT wy ?_ (F.args_set_iter_1 _));show wpAny _ _ (Builtin.Frozenset.sizeOf S >>= _) _ _ s;unfold Builtin.Frozenset.sizeOf;refine wpAny_bind (wpAny_bind (wpAny_setEntries_of ho hd hf (wpAny_pure ?_)));unfold setDrawn;refine wpAny_bind (wpAny_bind (wpAny_setState_of ho hd hf ?_));dsimp only;unfold setsByText;refine wpAny_bind (wpAny_bind (wpAny_askSetting (wpAny_pure ?_)));refine wpAny_pure ?_;have nd:(!w.params.followText "set-order" && (!(tbl (zr w) (lst m)).plain && decide (es.size>1)))=false:=by rw[z2B];simp
 rw[if_neg (fun z=>by
  have z':(!w.params.followText "set-order" && (!(tbl (zr w) (lst m)).plain && decide (es.size>1)))=true:=z;rw[nd]at z';cases z')]
 refine wpAny_bind (wpAny_pure ?_);unfold setEpoch;refine wpAny_bind (wpAny_bind (wpAny_setState_of ho hd hf (wpAny_pure ?_)));exact wpAny_bind (wpAny_newObj_type (wpAny_pure ⟨_,rfl,"set_iterator",_,⟨_,Heap.get?_push_size _ rfl,rfl⟩,si_slot_next.lookup,hQ⟩))
end
theorem zBK:typeLookup (.type "set") "__len__"=pure (some (.builtin "set.__len__")):=by rw[typeLookup_type,builtinLookup_eq_fast];kernel_rfl
section
variable{prog:Program}{w:World}{A:Around}{E:Value->Shared->Prop}{s:Shared}
theorem z8A{S m ep:Nat}{es:Array (Int×Value)}{Q:List Value->Shared->Prop}(hh:A.handled=none)(hm:m<256)(hS:SetIs s.heap S (zr w) m es ep)
  (hQ:∀h' tk,(∀b o,s.heap.get? b=some o->h'.get? b=some o)->Q ((yZ w S ep es).toList.map (·.2)) { s with heap:=h',toks:=tk }) :
  wpAny (model prog w) A (collect (.ref S)) Q E s:=by
 obtain⟨o,ho,hex,hd,he,hf⟩:=id hS;have hln:=uj m;have hsz:=he.size;have hSlt:=Heap.lt_size ho;unfold collect;refine wpAny_bind (wpAny_runValue (codeAny_builtin F.entry_proto_collect ?_));rw[Around.under_plainId F.plain_proto_collect _];show wpAny _ A.in1 (newList [] >>= fun l=>again (.builtin "list.__iadd__" ⟨[l,.ref S],[]⟩)) _ _ s;refine wpAny_bind (wpAny_newObj_type ?_);refine wpAny_pure ⟨plainId_quiet F.plain_list_iadd _,codeAny_builtin F.entry_list_iadd ?_⟩;rw[Around.under_plainId F.plain_list_iadd _];show wpAny _ A.in1 (Builtin.List.listExtendWith (.ref s.heap.objs.size) (.ref S) (.ref s.heap.objs.size)) _ _ _;unfold Builtin.List.listExtendWith;generalize hH:s.heap.push { cls:=.type "list",data:=.seq ([]:List Value).toArray }=H;have hHs:H.objs.size=s.heap.objs.size+1:=by rw[<-hH,Heap.size_push]
 have keep:∀b ob,s.heap.get? b=some ob->H.get? b=some ob:=fun b ob e=>hH▸Heap.get?_push_of_some _ e;have hS1:SetIs H S (zr w) m es ep:=hS.at fun ob e=>keep S ob e;have hT:Shared.TypeIs { s with heap:=H } (.ref S) "set":=⟨o,keep _ _ ho,hex.1⟩;refine wpAny_bind (wpAny_typeOf (T:="set") (v:=.ref S) hT ?_);have hSI:s.heap.objs.size≠S:=Nat.ne_of_gt hSlt;have h1:Builtin.List.listSameRef (.ref s.heap.objs.size) (.ref S)=false:=by simp[Builtin.List.listSameRef,hSI]
 have h2:(Value.type "set" == Value.type "list")=false:=by decide
 have h3:(Value.type "set" == Value.type "tuple")=false:=by decide
 simp only[h1,h2,h3,Bool.or_false,Bool.false_eq_true,if_false];refine wpAny_bind (zD1 (s:={ s with heap:=H }) hS1 ?_);have hT2:Shared.TypeIs { s with heap:=H.push { cls:=.type "set_iterator",data:=.fields #[.int 0 0,.int 0 0,.ref S,.int (es.size:Int) 0,.int (ep:Int) 0] } } (.ref S) "set":=⟨o,Heap.get?_push_of_some _ (keep _ _ ho),hex.1⟩;refine wpAny_bind (wpAny_holding ?_);unfold Builtin.List.listLengthHint;refine wpAny_bind (wpAny_specialOf (T:="set") (v:=.ref S) hT2 zBK ?_)
 wp_delta
 refine wpAny_bind (wpAny_isInstance (T:="set") (v:=.ref S) (b:=true) hT2 (by rw[isSubtype_type];kernel_rfl) ?_);show wpAny _ A.in1 (typeOf (Value.ref S) >>= _) _ _ _;refine wpAny_bind (wpAny_typeOf (T:="set") (v:=.ref S) hT2 ?_);refine wpAny_pure ?_;rw[if_pos (by decide)];have hSf:s.heap.objs.size∉[H.objs.size,S]:=by
  rw[hHs];simp only[List.mem_cons,List.mem_singleton,List.not_mem_nil,or_false,not_or];exact⟨Nat.ne_of_lt (Nat.lt_succ_self _),hSI⟩
 have hL:(H.push { cls:=.type "set_iterator",data:=.fields #[.int 0 0,.int 0 0,.ref S,.int (es.size:Int) 0,.int (ep:Int) 0] }).get? s.heap.objs.size=some { cls:=.type "list",data:=.seq ([]:List Value).toArray }:=Heap.get?_push_of_some _ (hH▸Heap.get?_push_size _ rfl);have hneI:S≠H.objs.size:=by rw[hHs];exact Nat.ne_of_lt (Nat.lt_succ_of_lt hSlt)
 have hs0:slOf w (lst m) 0=0:=by unfold slOf xG;simp
 refine wpAny_bind (wpAny_rule ?_);unfold Builtin.List.listTouch;refine wpAny_bind (wpAny_bind (listUpdate_at hL rfl ?_ (by decide) (by decide)));have g1:=Heap.get?_update_self (Obj.mapSeq (·.push .none)) hL rfl;refine listUpdate_at g1 rfl ?_ (by decide) (by decide);have g2:=Heap.get?_update_self (Obj.mapSeq (·.pop)) g1 rfl;have sb:=(Heap.SameBut.update (H.push { cls:=.type "set_iterator",data:=.fields #[.int 0 0,.int 0 0,.ref S,.int (es.size:Int) 0,.int (ep:Int) 0] }) s.heap.objs.size (Obj.mapSeq (·.push .none))).trans (Heap.SameBut.update _ s.heap.objs.size (Obj.mapSeq (·.pop)));generalize hH2:((H.push { cls:=.type "set_iterator",data:=.fields #[.int 0 0,.int 0 0,.ref S,.int (es.size:Int) 0,.int (ep:Int) 0] }).update s.heap.objs.size (Obj.mapSeq (·.push .none))).update s.heap.objs.size (Obj.mapSeq (·.pop))=H2 at g2 sb |-;have hIT:H2.get? H.objs.size=some { cls:=.type "set_iterator",data:=.fields #[.int 0 0,.int 0 0,.ref S,.int (es.size:Int) 0,.int (ep:Int) 0] }:=sb.extBut _ _ (by rw[hHs];exact Nat.ne_of_gt (Nat.lt_succ_self _)) (Heap.get?_push_size _ rfl);have hI0:IsSI H2 H.objs.size S es.size ep (slOf w (lst m) 0) 0:=by
  rw[hs0];exact⟨_,hIT,rfl,rfl⟩
 have hS2:SetIs H2 S (zr w) m es ep:=hS1.at fun ob e=>sb.extBut _ _ (Ne.symm hSI) (Heap.get?_push_of_some _ e);refine wpAny_pure ⟨plainId_quiet F.plain_extend_loop _,codeAny_extend_loopS (zBd (A:=A.in1) (ep:=ep) (es:=es) hh H.objs.size S hneI hm).toS (by rw[sizeLine_eq];omega) _ hSf _ es.size 0 _ _ _ rfl (Nat.zero_le _) ⟨hI0,hS2⟩ g2 (ItemsOf.nil _) fun s' acc' c' hmv hS' hacc=>?_⟩;show wpAny _ A (load s.heap.objs.size >>= _) _ _ s';refine wpAny_bind (wpAny_load hS' ?_);obtain⟨h',g',d',tk',os'⟩:=s';have eg:g'=s.gens:=hmv.gens;have ed:d'=s.drawn:=hmv.drawn;have eo:os'=s.os:=hmv.os;subst eg;subst ed;subst eo;have eacc:acc'.toList=(yZ w S ep es).toList.map (·.2):=by
  have hl:=(yz w S ep es).length_eq;rw[Array.length_toList,Array.length_toList]at hl;refine List.ext_getElem? fun i=>?_;rw[List.getElem?_map,Array.getElem?_toList,Array.getElem?_toList];cases e:acc'[i]? with
  | some v=>exact(hacc.2 i v e).symm
  | none=>
   have h1:=Array.getElem?_eq_none_iff.mp e;rw[hacc.1]at h1;rw[Array.getElem?_eq_none (by omega)];rfl
 refine wpAny_pure ?_;rw[eacc];refine hQ h' tk' fun b ob e=>hmv.heap b ob (fun hb=>?_) (sb.extBut _ _ (Nat.ne_of_lt (Heap.lt_size e)) (Heap.get?_push_of_some _ (keep _ _ e)));have hlt:=Heap.lt_size e;rcases List.mem_cons.mp hb with h | h
 ·exact absurd hlt (h▸Nat.lt_irrefl _)
 ·rw[List.mem_singleton.mp h,hHs]at hlt;exact absurd hlt (Nat.not_lt.mpr (Nat.le_succ _))
end
open PySem.W (kat_lt_int)
section
variable{X:Cx}
theorem z0L:∀{a b:List Int},a.Perm b->a.Pairwise (·<=·)->b.Pairwise (·<=·)->a=b
 | [],b,h,_,_=>h.nil_eq
 | x::a,[],h,_,_=>absurd h.length_eq (by simp)
 | x::a,y::b,h,h1,h2=>by
  obtain⟨p1,q1⟩:=List.pairwise_cons.mp h1;obtain⟨p2,q2⟩:=List.pairwise_cons.mp h2;have e:x=y:=by
   have hx:x∈y::b:=h.mem_iff.mp List.mem_cons_self;have hy:y∈x::a:=h.mem_iff.mpr List.mem_cons_self;rcases List.mem_cons.mp hx with z | z
   ·exact z
   ·rcases List.mem_cons.mp hy with w | w
    ·exact w.symm
    ·exact Int.le_antisymm (p1 y w) (p2 x z)
  subst e;rw[z0L (h.cons_inv) q1 q2]
theorem z2u{pins:List (Addr×Obj)}{s:Shared}{σ:L2.St}{H:Hp}{Q:VK}{S:Addr->Prop}{x:Value}{ns r:List Int}{its:List Value}(I:L2.Inv X pins σ H s)(hS:∀a,S a->H a≠none)(rv:Vals (ns.map V.int) its)(h64:ns.length<64)
  (hcol:∀(Q':List Value->Shared->Prop),(∀h' tk,(∀b o,s.heap.get? b=some o->h'.get? b=some o)->Q' its { s with heap:=h',toks:=tk })->wpAny (model X.prog X.w) X.A.in1 (collect x) Q' X.xe s)
  (hr:ns.Perm r) (hrs:r.Pairwise (·<=·)) (q:∀v H',Same H H'->DatS S H' (.list (r.map PyData.int)) v->Q v H'):wpAny (model X.prog X.w) X.A (call (.builtin "sorted") [x]) (EP X pins σ Q) X.xe s:=by
 have l2:ns.length=its.length:=by rw[<-rv.length,List.length_map]
 have at1:∀i,i<its.length->∃t,its.getD i Value.none=.int (ns.getD i 0) t:=fun i hi=>by
  have hi':i<ns.length:=by omega
  obtain⟨u,e,t,ru⟩:=rv.get (i:=i) (x:=.int ns[i]) (by rw[List.getElem?_map,List.getElem?_eq_getElem hi'];rfl);exact⟨t,by rw[List.getD_eq_getElem?_getD,e,List.getD_eq_getElem?_getD,List.getElem?_eq_getElem hi',ru];rfl⟩
 refine z2V (κ:=oneType') (f:=fun i=>ns.getD i 0) (by omega) hcol (fun s' Q' E' h2 kp hq'=>?_) (fun i j s' Q' E' hi hj kp hq'=>?_) fun p h' hf e tk hp hup k1 k2 ho=>?_
 ·refine W.kas_kind (T:=.type "int") h2 (fun v hv=>?_) rfl rfl hq';obtain⟨i,hi,rfl⟩:=List.mem_iff_getElem.mp hv;obtain⟨t,e⟩:=at1 i hi;rw[List.getD_eq_getElem?_getD,List.getElem?_eq_getElem hi]at e;have e':its[i]=.int (ns.getD i 0) t:=e;rw[e'];exact W.Looks.of_pure rfl
 ·obtain⟨t,e1⟩:=at1 i hi;obtain⟨t2,e2⟩:=at1 j hj;rw[e1,e2];exact kat_lt_int hq'
 ·have hpl:p.toList.Perm (List.range its.length):=by simpa using hp.toList
  have hmem:∀i∈p.toList,i<its.length:=fun i hi=>List.mem_range.mp (hpl.mem_iff.mp hi);have hsz:p.size=its.length:=by have:=hpl.length_eq;simpa using this
  have er:p.toList.map (fun i=>ns.getD i 0)=r:=by
   refine z0L (List.Perm.trans ?_ hr) ?_ hrs
   ·have:=hpl.map fun i=>ns.getD i 0
    rwa [show(List.range its.length).map (fun i=>ns.getD i 0)=ns from List.ext_getElem (by simp[l2]) fun i a b=>by simp[List.getD_eq_getElem?_getD,b]]at this
   ·rw[List.pairwise_map];exact um hsz hup
  have vals:∀l:List Nat,(∀i∈l,i<its.length)->Vals ((l.map fun i=>ns.getD i 0).map V.int) (l.map fun i=>its.getD i Value.none):=fun l=>by
   induction l with
   | nil=>intro _;exact .nil
   | cons i l ih=>
    intro hl;obtain⟨t,e⟩:=at1 i (hl i List.mem_cons_self);exact .cons ⟨t,e⟩ (ih fun j hj=>hl j (List.mem_cons_of_mem _ hj))
  have vp:=vals p.toList hmem;rw[er]at vp;have I1:=I.kept (t':=tk) k1;refine⟨.ref h'.objs.size,_,I1.laid (t':=tk) (a:=h'.objs.size) (o:=.lst (r.map V.int)) (h':=hf) k2 (Nat.le_refl _) ⟨by rw[List.length_map,<-hr.length_eq,sizeLine_eq];omega,_,e,vp,ho⟩,rfl,q _ _ (Same.new (I1.hok.fresh (Nat.le_refl _))) (xt hS (I1.hok.fresh (Nat.le_refl _)) (z1W r))⟩
end
noncomputable def m8(ns:List Nat):Nat:=mOf (fun i=>ns.getD i 0) ns.length
noncomputable def toN8:List PyData->Option (List Nat)
 | []=>some []
 | .int i::r=>if 0<=i/\i<8 then(toN8 r).map (i.toNat::·)else none
 | _=>none
theorem z5R:∀{ds:List PyData} {ns:List Nat},toN8 ds=some ns->ds=ns.map (fun n=>PyData.int (nI n))/\∀n∈ns,n<8
 | [],ns,h=>by simp only[toN8]at h;cases h;exact⟨rfl,fun n hn=>nomatch hn⟩
 | d::r,ns,h=>by
  cases d<;>simp only[toN8]at h<;>try (cases h;done)
  rename_i i
  split at h
  next hi=>
   cases e:toN8 r with
   | none=>rw[e]at h;cases h
   | some ms=>
    rw[e]at h;cases h;obtain⟨e1,e2⟩:=z5R e;refine⟨by rw[List.map_cons,<-e1,show nI i.toNat=i from Int.toNat_of_nonneg hi.1],fun n hn=>?_⟩;rcases List.mem_cons.mp hn with rfl | hn
    ·omega
    ·exact e2 n hn
  next=>cases h
theorem z2E:∀ns:List Nat,zn (ns.map fun n=>PyData.int (nI n))=some (ns.map nI)
 | []=>rfl
 | n::ns=>by simp only[List.map_cons,zn];rw[z2E ns];rfl
theorem zCy{ns:List Nat}(h:∀n∈ns,n<8):m8 ns<256:=z5u fun i hi=>by
 rw[List.getD_eq_getElem?_getD,List.getElem?_eq_getElem hi];exact h _ (List.getElem_mem hi)
theorem z8g{ns:List Nat}(h:∀n∈ns,n<8)(x:Nat):x∈lst (m8 ns)↔x∈ns:=by
 by_cases hx:x<8
 ·rw[z5c hx,m8,z5f];constructor
  ·rintro⟨i,hi,e⟩;rw[List.getD_eq_getElem?_getD,List.getElem?_eq_getElem hi]at e;rw[<-e];exact List.getElem_mem hi
  ·intro hm;obtain⟨i,hi,e⟩:=List.mem_iff_getElem.mp hm;exact⟨i,hi,by rw[List.getD_eq_getElem?_getD,List.getElem?_eq_getElem hi];exact e⟩
 ·exact⟨fun hm=>absurd (z91 hm) hx,fun hm=>absurd (h x hm) hx⟩
theorem z0G(m:Nat):(lst m).Pairwise (·<·):=List.Pairwise.sublist List.filter_sublist List.pairwise_lt_range
noncomputable def xr:PyData->Option PyData
 | .list ds=>(toN8 ds).map fun ns=>.list ((lst (m8 ns)).map fun n=>PyData.int (nI n))
 | _=>none
variable{X:Cx}
noncomputable def φSet(w:World)(D m:Nat):Heap->Prop:=fun h=>SetAt h D (zr w) m
noncomputable abbrev zD7(w:World)(K:W.Frag):List V->Hp->VK->Prop:=fun xs H Q=>∃(p:Addr) (ns:List Nat),xs=[.ref p]/\SqL K H p (ns.map fun n=>V.int (nI n))/\(∀n∈ns,n<8)/\∀D,H D=none->Q (.ref D) (upd H D (.ext (φSet w D (m8 ns))))
theorem z4P(hc:X.calm=true):CallR X (.type "set") (zD7 X.w X.K):=by
 intro pins s σ H xs us Q I r h;obtain⟨p,ns,rfl,hq,h8,q⟩:=h;obtain⟨u,rfl,ru⟩:=xf r;cases ru;obtain⟨its,rv,pl,hz⟩:=I.list hq;have hlen:its.length=ns.length:=by rw[<-rv.length,List.length_map]
 have hsz:its.toArray.size=ns.length:=by simpa using hlen
 refine z5e (val:=fun i=>ns.getD i 0) (I.ok.hd hc) pl.isList (fun i v e=>?_) (fun i hi=>?_) fun h' tk hS kp=>?_
 ·have e':its[i]?=some v:=by simpa using e
  have hi:i<ns.length:=by rw[<-hlen];exact(List.getElem?_eq_some_iff.mp e').1
  obtain⟨v',e3,t,rfl⟩:=rv.get (i:=i) (x:=.int (nI (ns.getD i 0))) (by rw[List.getElem?_map,List.getElem?_eq_getElem hi,List.getD_eq_getElem?_getD,List.getElem?_eq_getElem hi];rfl);rw[e3]at e';cases e';exact⟨t,rfl⟩
 ·have hi':i<ns.length:=by rw[<-hsz];exact hi
  show ns.getD i 0<8;rw[List.getD_eq_getElem?_getD,List.getElem?_eq_getElem hi'];exact h8 _ (List.getElem_mem hi')
 ·rw[hsz]at hS;have hn:H s.heap.objs.size=none:=I.hok.fresh (Nat.le_refl _);refine⟨.ref s.heap.objs.size,_,I.laid (t':=tk) (a:=s.heap.objs.size) (o:=.ext (φSet X.w s.heap.objs.size (m8 ns))) (h':=h') kp (Nat.le_refl _) ⟨hS,?_,fun h1 h2 a b=>SetAt.at a b⟩,rfl,q _ hn⟩;obtain⟨o,es,ep,ho,_⟩:=hS;exact⟨o,ho⟩
noncomputable abbrev zAU(w:World):List V->Hp->VK->Prop:=fun xs H Q=>∃(D:Addr) (m:Nat) (S:Addr->Prop),xs=[.ref D]/\H D=some (.ext (φSet w D m))/\m<256/\(∀a,S a->H a≠none)/\∀v H',Same H H'->DatS S H' (.list ((lst m).map fun n=>PyData.int (nI n))) v->Q v H'
theorem z4A(hc:X.calm=true):CallR X (.builtin "sorted") (zAU X.w):=by
 intro pins s σ H xs us Q I r h;obtain⟨D,m,S,rfl,hD,hm,hS,q⟩:=h;obtain⟨u,rfl,ru⟩:=xf r;cases ru;obtain⟨hφ,_,_⟩:=I.hok D _ hD;obtain⟨o,es,ep,ho,hex,hd,he,hf⟩:SetAt s.heap D (zr X.w) m:=hφ;have hset:SetIs s.heap D (zr X.w) m es ep:=⟨o,ho,hex,hd,he,hf⟩;have pe:=yz X.w D ep es;have val:∀l:List (Int×Value),(∀e∈l,∃t,e.2=.int e.1 t)->Vals (l.map fun e=>V.int e.1) (l.map (·.2)):=fun l=>by
  induction l with
  | nil=>intro _;exact .nil
  | cons e l ih=>
   intro hl;obtain⟨t,et⟩:=hl e List.mem_cons_self;exact .cons ⟨t,et⟩ (ih fun e' h'=>hl e' (List.mem_cons_of_mem _ h'))
 have rv:=val (yZ X.w D ep es).toList fun e hm'=>he.2 e (pe.mem_iff.mp hm');rw[show((yZ X.w D ep es).toList.map fun e=>V.int e.1)=((yZ X.w D ep es).toList.map (·.1)).map V.int by rw[List.map_map];rfl]at rv;have hp:((yZ X.w D ep es).toList.map (·.1)).Perm ((lst m).map nI):=by
  have h1:=pe.map (·.1);rw[he.1]at h1;exact h1
 refine z2u I hS rv ?_ (fun Q' hq'=>z8A (A:=X.A.in1) (I.ok.hd hc) hm hset hq') hp ?_ ?_
 ·rw[hp.length_eq,List.length_map]
  have:=uj m;omega
 ·rw[List.pairwise_map];exact(z0G m).imp fun{a b} hab=>by unfold nI;omega
 ·rw[List.map_map];exact q
variable{K:W.Frag}{Er:Str->Hp->Prop}{a:Expr}{ma:Env'->Mx D}
theorem z0H{p p2 pos pos2:Pos}(hc:X.calm=true)(hg1:Gl X "sorted")(hm1:X.mg "sorted"=none)(hv1:bootBuiltins "sorted"=some (.builtin "sorted"))(hg2:Gl X "set")(hm2:X.mg "set"=none)(hv2:bootBuiltins "set"=some (.type "set"))(ha:DW K Er X a ma)
  (hs:starEach [a] X.env=(false,eval a X.env)::starEach [] X.env:=by rfl):DE K Er X (.Call (.Name "sorted" p) [.Call (.Name "set" p2) [a] [] pos2] [] pos) (mUn xr ma):=
 (yB (z4A hc) hg1 hm1 hv1 (zW (xH (z4P hc) hg2 hm2 hv2 (zW ha pa_nil hs) (he:=hs)) pa_nil)).imp fun σ H Q h=>rd1 h (fun _ _ _ _ _ _ _ _ _ _ r=>r) fun g ow ρ n d v H0 H2 fr _ r q=>by
  obtain⟨z,e,q2⟩:=yk fr.twn q;obtain⟨x,rfl,e1⟩:=zf e;cases x<;>simp only[xr]at e1<;>try (cases e1;done)
  rename_i ds
  cases en:toN8 ds with
  | none=>rw[en]at e1;cases e1
  | some ns=>
   rw[en]at e1;cases e1;obtain⟨ed,h8⟩:=z5R en;obtain⟨b,xs,rfl,g1,k1⟩:=ym (Rep1.d1 r);have ex:xs=ns.map fun n=>V.int (nI n):=by
    have:=yd (ds:=ds) (ns:=ns.map nI) (by rw[ed];exact z2E ns) k1;rw[this,List.map_map];rfl
   subst ex;refine⟨b,ns,rfl,SqL.of g1,h8,fun D' hD=>⟨D',m8 ns,g.S ow,rfl,zG,zCy h8,fun c hcS=>?_,fun v H' s' dv=>q2 _ _ (fun b' o' e'=>s' _ _ (Same.new hD _ _ e')) dv⟩⟩;intro z;by_cases hcD:c=D'
   ·subst hcD;rw[zG]at z;cases z
   ·rw[zI hcD]at z;exact fr.dom c hcS z
end L2
namespace L2
open PySem PySem.Spec PyProof.Rows
section
variable{X:Cx}{pins:List (Addr×Obj)}{σ:St}{H:Hp}{s:Shared}{scope:Scope}{N':List Str}{xs:List Str}{fp:List Addr}
noncomputable def g2(K:W.Frag)(i:Nat):TG:=gTup K 2 (z9U (z1G i) (z9U (z1G (i+1)) gNil))
theorem z9I(σ:St)(o1 o2:Option V)(v w:V):((σ++[o1,o2]).set σ.length (some v)).set (σ.length+1) (some w)=σ++[some v,some w]:=by
 rw[List.set_append_right _ _ (Nat.le_refl _),Nat.sub_self,List.set_append_right _ _ (by simp),Nat.add_sub_cancel_left];rfl
noncomputable def z8h(K:W.Frag)(wi:TI)(tc:TT)(te:TE):TE:=fun σ H Q=>wi σ H fun J H1=>∃(n:Nat) (W:Nat->List V->Hp->Prop),W 0 [] H1/\CompWG J σ (g2 K σ.length) 2 tc te n W/\∀ys H',W n ys H'->∀D,H' D=none->Q (.ref D) (upd H' D (.lst ys))
theorem z7b{N:List Str}{sc:Scope}{elt iter tg:Expr}{ifs:List Expr}{pos:Pos}{wi:TI}{tc:TT}{te:TE}{K':W.Frag}(hc:X.calm=true)(hN:X.N=N)(hsc:X.env.scope=sc)(h:uz N sc scope xs N'=true)(h2:xs.length=2)
  (hi:PI X tg iter wi) (hf:∀C s H fp,PF (zY X scope N' C s H fp) ifs tc) (he:∀C s H fp,PE (zY X scope N' C s H fp) elt te) (hg:∀C s H fp,PG (zY X scope N' C s H fp) tg (g2 K' N.length))
  (hs:∀x,foldedSetIterable iter X.env x=pure x:=by intro _;rfl):PE X (.ListComp elt [⟨tg,iter,ifs,0⟩] scope pos) (z8h K' wi tc te):=by
 intro pins s σ H Q I q;subst hN hsc;have ok:=CompOk.of h;rw[eval_ListComp];refine wpAny_comprehension_free (use:=none) rfl hs (uO I ok) ok.kind (fun y hy hl=>by rw[ok.uniq y hy,hl]) (thn (hi pins s σ H _ I q) fun v s1 h1=>thn h1 fun itv s2 h2'=>?_);obtain⟨it,fp,tn,J,H2,e,I2,T,st2,f2,n,W,w0,CW,fin⟩:=h2';subst e;rw[<-h2,I2.len]at CW;refine uM (RR:=fun acc C=>compPost (model X.prog X.w) X.A X.xe none (EP X pins σ Q) acc C) ok hc (fun C fp=>he C s2 H2 fp) (fun C fp=>hf C s2 H2 fp) (fun C fp=>hg C s2 H2 fp) I2 T st2 f2 w0 CW ?_;intro C D s' H' ys us k pl hCs hDs hDC J' hD hDn rv hl w;obtain⟨m,hm,_⟩:=J'.loc;exact⟨m,hm,fun g hg=>⟨.ref D,_,uI I2 f2 hCs hDs hDC J' hD hDn rv hl hg,rfl,fin ys H' w D hDn⟩⟩
end
section
variable{prog:Program}{w:World}{A:Around}{E:Value->Shared->Prop}{s:Shared}
theorem z2L{j b:Addr}{i:Nat}{ys:Array Value}{y:Value}{Q:Value->Shared->Prop}(t:s.heap.IsTupleIter j b i)(hb:s.heap.IsTuple b ys)(hy:ys[i]?=some y)
  (hQ:∀g:Heap,g.IsTupleIter j b (i+1)->Heap.SameBut j s.heap g->Q y { s with heap:=g }):wpAny (model prog w) A (Builtin.SmallTypes.nextOf (.ref j)) Q E s:=by
 obtain⟨u,hu,cu,du⟩:=id t;obtain⟨v,hv,_,_,dv⟩:=hb;refine wpAny_bind (wpAny_callSpecial?_slot (name:=Str.ofString "__next__") t.typeIs F.slot_tuple_iterator_next (wpAny_call_entry F.slot_tuple_iterator_next t.typeIs F.entry_tuple_iterator_next ?_ (F.args_tuple_iterator_next_1 _)));show wpAny _ _ (field (.ref j) 0 >>= _) _ _ s;refine wpAny_bind (wpAny_field hu du (x:=.ref b) rfl ?_);show wpAny _ _ (if (Value.ref b == Value.none)=true then _ else _) _ _ s;rw[if_neg (by exact Bool.false_ne_true)];show wpAny _ _ (field (.ref j) 1 >>= _) _ _ s;refine wpAny_bind (wpAny_field hu du (x:=.int i 0) rfl ?_);show wpAny _ _ (seqItems? (.ref b) >>= _) _ _ s;refine wpAny_bind (wpAny_seqItems hv dv ?_);simp only[Int.toNat_natCast,hy];refine wpAny_bind (wpAny_setField hu du (by simp) (wpAny_pure ⟨y,rfl,wpAny_pure (hQ _ ?_ (Heap.SameBut.update ..))⟩));refine⟨_,Heap.get?_update_self _ hu (Obj.isFreed_of_fields (Obj.data_mapFields du _)),(Obj.cls_mapFields ..).trans cu,?_⟩;rw[Obj.data_mapFields du];simp[rawInt]
theorem z8x{j b:Addr}{i:Nat}{ys:Array Value}{Q:Value->Shared->Prop}(hh:A.handled=none)(t:s.heap.IsTupleIter j b i)(hb:s.heap.IsTuple b ys)(hy:ys[i]?=none)
  (hE:∀(g:Heap) e,Heap.ExtBut j s.heap g->(∃o,g.get? e=some o/\o.cls=.type "StopIteration")->E (.ref e) { s with heap:=g }):wpAny (model prog w) A (Builtin.SmallTypes.nextOf (.ref j)) Q E s:=by
 obtain⟨u,hu,cu,du⟩:=id t;obtain⟨v,hv,_,_,dv⟩:=hb;refine wpAny_bind (wpAny_callSpecial?_slot (name:=Str.ofString "__next__") t.typeIs F.slot_tuple_iterator_next (wpAny_call_entry F.slot_tuple_iterator_next t.typeIs F.entry_tuple_iterator_next ?_ (F.args_tuple_iterator_next_1 _)));show wpAny _ _ (field (.ref j) 0 >>= _) _ _ s;refine wpAny_bind (wpAny_field hu du (x:=.ref b) rfl ?_);show wpAny _ _ (if (Value.ref b == Value.none)=true then _ else _) _ _ s;rw[if_neg (by exact Bool.false_ne_true)];show wpAny _ _ (field (.ref j) 1 >>= _) _ _ s;refine wpAny_bind (wpAny_field hu du (x:=.int i 0) rfl ?_);show wpAny _ _ (seqItems? (.ref b) >>= _) _ _ s;refine wpAny_bind (wpAny_seqItems hv dv ?_);simp only[Int.toNat_natCast,hy];refine wpAny_bind (wpAny_rule (wpAny_bind (wpAny_setField hu du (by simp) ?_)));show wpAny _ _ (newExc (.type "StopIteration") [] >>= _) _ _ _;refine wpAny_bind ?_;simp only[newExc,newTuple];refine wpAny_bind (wpAny_newObj_type ?_ (by size_fits));refine wpAny_bind (m:=firstArgMember _ _) (wpAny_of_eq (a:=Value.none) (by first | rfl | (simp only[firstArgMember];rfl)) ?_);refine wpAny_newObj_type ?_ (by size_fits);simp only[raiseNew];refine wpAny_bind (wpAny_handled ?_)
 first | rw[show A.in1.handled=none from hh] | rw[hh]
 refine wpAny_bind (wpAny_pure (wpAny_throw (hE _ _ ?_ ⟨_,Heap.get?_push_size _ rfl,rfl⟩)));exact((Heap.SameBut.update ..).extBut.push _).push _
end
noncomputable def Itz(K:W.Frag)(a1 a2:Addr):It:=⟨fun i H=>∃xs ys,SqT K H a1 xs/\SqT K H a2 ys/\i<xs.length/\i<ys.length,
 fun i H x H'=>∃T u v,(∀xs,SqT K H a1 xs->xs[i]?=some u)/\(∀ys,SqT K H a2 ys->ys[i]?=some v)/\H T=none/\x=.ref T/\H'=upd H T (.tup [u,v]),
 fun i H=>∃xs ys,SqT K H a1 xs/\SqT K H a2 ys/\(xs.length<=i\/ys.length<=i)⟩
structure Zst(z TI TO j1 j2 a1 a2:Addr)(i:Nat)(h:Heap):Prop where
 zip:IsZip h z TI TO .none
 its:IsPair h TI (.ref j1) (.ref j2)
 out:∃u v,IsPair h TO u v
 one:h.IsTupleIter j1 a1 i
 two:h.IsTupleIter j2 a2 i
section
variable{X:Cx}{pins:List (Addr×Obj)}{σ:St}{H:Hp}{s:Shared}{a:Addr}
theorem Inv.turn1{h':Heap}(I:Inv X pins σ H s)(f:FpOk X pins H a)(k:Heap.SameBut a s.heap h'):Inv X pins σ H { s with heap:=h' }:=
 I.turned (t':=s.toks) (fun b o hb e=>k.extBut b o hb e) f.1 f.2.1 f.2.2.2.1 f.2.2.2.2.1 f.2.2.2.2.2
end
structure Zne(z TI TO j1 j2:Addr):Prop where
 zi:TI≠z
 zo:TO≠z
 z1:j1≠z
 z2:j2≠z
 io:TI≠TO
 i1:TI≠j1
 i2:TI≠j2
 o1:TO≠j1
 o2:TO≠j2
 n12:j1≠j2
theorem z7s{P:Program}{w:World}{K:W.Frag}{elts:List Expr}{x1}{pos:Pos}{z TI TO j1 j2 a1 a2:Addr}(N:Zne z TI TO j1 j2):
  Turn P w K (.Tuple elts x1 pos) (Itz K a1 a2) [z,TI,TO,j1,j2] z (Zst z TI TO j1 j2 a1 a2) where
 mem:=by simp
 obj:=fun i h st b hb=>by
  simp only[List.mem_cons,List.not_mem_nil,or_false]at hb;rcases hb with rfl | rfl | rfl | rfl | rfl
  ·exact⟨_,st.zip,fun _ q=>nomatch q⟩
  ·exact⟨_,st.its,fun _ q=>nomatch q⟩
  ·obtain⟨_,_,e⟩:=st.out;exact⟨_,e,fun _ q=>nomatch q⟩
  ·obtain⟨o,e,_,d⟩:=st.one;exact⟨o,e,fun _ q=>by rw[d]at q;cases q⟩
  ·obtain⟨o,e,_,d⟩:=st.two;exact⟨o,e,fun _ q=>by rw[d]at q;cases q⟩
 keep:=fun i h h' st k=>by
  obtain⟨u,v,e⟩:=st.out;exact⟨k z (by simp) _ st.zip,k TI (by simp) _ st.its,⟨u,v,k TO (by simp) _ e⟩,st.one.at fun o e=>k j1 (by simp) o e,st.two.at fun o e=>k j2 (by simp) o e⟩
 item:=by
  intro X hP hw hK hc i pins s σ H E I hf st hg;subst hP hw hK;obtain⟨xs,ys,hx,hy,lx,ly⟩:=hg;obtain⟨p,q,hpq⟩:=st.out;have fz:=hf z (by simp);have fo:=hf TO (by simp);have f1:=hf j1 (by simp);have f2:=hf j2 (by simp);have ex:xs[i]?=some xs[i]:=List.getElem?_eq_getElem lx;have ey:ys[i]?=some ys[i]:=List.getElem?_eq_getElem ly;have hT:s.TypeIs (.ref z) "zip":=⟨_,st.zip,rfl⟩;unfold pyNext;refine wpAny_bind (wpAny_attempt (wpAny_callSpecial?_slot (name:=Str.ofString "__next__") hT F.slot_zip_next (wpAny_call_entry F.slot_zip_next hT F.entry_zip_next ?_ (F.args_zip_next_1 _))));show wpAny _ _ (field (.ref z) 2 >>= _) _ _ s;refine wpAny_bind (wpAny_field st.zip rfl (x:=.bool false) rfl ?_);show wpAny _ _ (field (.ref z) 3 >>= _) _ _ s;refine wpAny_bind (wpAny_field st.zip rfl (x:=.ref TI) rfl (wpAny_bind (wpAny_seqItems st.its rfl ?_)));show wpAny _ _ (Builtin.SmallTypes.ownedTupleIsFree (.ref z) >>= _) _ _ s;refine wpAny_bind ?_;unfold Builtin.SmallTypes.ownedTupleIsFree;refine wpAny_bind (wpAny_field st.zip rfl (x:=.none) rfl (wpAny_pure ?_));simp only[if_true];refine wpAny_bind (wpAny_rule (wpAny_bind (wpAny_field st.zip rfl (x:=.ref TO) rfl (wpAny_bind (wpAny_setField_rec st.zip (by simp) fun g1 z1 k1=>?_)))))
  replace z1:IsZip g1 z TI TO .ellipsis:=z1
  have I1:=I.turn1 fz k1;refine wpAny_bind ?_;simp only[List.zipIdx_cons,List.zipIdx_nil,List.forIn_cons,List.forIn_nil];refine wpAny_bind (wpAny_bind (wpAny_onRaise ?_));show wpAny _ _ (Builtin.SmallTypes.nextOf (.ref j1) >>= _) _ _ _;obtain⟨us,ru,tu,_⟩:=I1.tuple hx;obtain⟨u,eu,vu⟩:=ru.get ex;refine wpAny_bind (z2L (s:={ s with heap:=g1 }) (st.one.at fun o e=>k1.extBut _ o N.z1 e) (show g1.IsTuple a1 us.toArray from tu) (y:=u) (by simpa using eu) fun g2 t2 k2=>wpAny_pure ?_);have I2:=I1.turn1 f1 k2;have o2:IsPair g2 TO p q:=k2.extBut _ _ N.o1 (k1.extBut _ _ N.zo hpq);refine wpAny_bind (wpAny_seqItems o2 rfl (wpAny_bind (wpAny_updateSeq_pair o2 fun g3 o3 k3=>?_)))
  replace o3:IsPair g3 TO u q:=o3
  have I3:=I2.turn1 fo k3;refine wpAny_bind (wpAny_letGo (wpAny_pure ?_));refine wpAny_bind (wpAny_bind (wpAny_onRaise ?_));show wpAny _ _ (Builtin.SmallTypes.nextOf (.ref j2) >>= _) _ _ _;obtain⟨vs,rv,tv,_⟩:=I3.tuple hy;obtain⟨v,ev,vv⟩:=rv.get ey;refine wpAny_bind (z2L (s:={ s with heap:=g3 }) (((st.two.at fun o e=>k1.extBut _ o N.z2 e).at fun o e=>k2.extBut _ o N.n12.symm e).at fun o e=>k3.extBut _ o N.o2.symm e) (show g3.IsTuple a2 vs.toArray from tv) (y:=v) (by simpa using ev) fun g4 t4 k4=>wpAny_pure ?_);have I4:=I3.turn1 f2 k4;have o4:IsPair g4 TO u q:=k4.extBut _ _ N.o2 o3;refine wpAny_bind (wpAny_seqItems o4 rfl (wpAny_bind (wpAny_updateSeq_pair o4 fun g5 o5 k5=>?_)))
  replace o5:IsPair g5 TO u v:=o5
  have I5:=I4.turn1 fo k5;refine wpAny_bind (wpAny_letGo (wpAny_pure (wpAny_pure ?_)));refine wpAny_bind (wpAny_seqItems o5 rfl (wpAny_bind (wpAny_newTuple ?_)));have lz:z<g5.objs.size:=Heap.lt_size (k5.extBut _ _ N.zo.symm (k4.extBut _ _ N.z2.symm (k3.extBut _ _ N.zo.symm (k2.extBut _ _ N.z1.symm z1))));have hfr:∀b∈[z,TI,TO,j1,j2],b<g5.objs.size:=by
   intro b hb;have keep5:∀c o,s.heap.get? c=some o->c<s.heap.objs.size:=fun c o e=>Heap.lt_size e;have hsz:g5.objs.size=s.heap.objs.size:=by rw[k5.1,k4.1,k3.1,k2.1,k1.1]
   rw[hsz];simp only[List.mem_cons,List.not_mem_nil,or_false]at hb;rcases hb with rfl | rfl | rfl | rfl | rfl
   ·exact Heap.lt_size st.zip
   ·exact Heap.lt_size st.its
   ·exact Heap.lt_size hpq
   ·obtain⟨_,e,_⟩:=st.one;exact Heap.lt_size e
   ·obtain⟨_,e,_⟩:=st.two;exact Heap.lt_size e
  have z5:IsZip g5 z TI TO .ellipsis:=k5.extBut _ _ N.zo.symm (k4.extBut _ _ N.z2.symm (k3.extBut _ _ N.zo.symm (k2.extBut _ _ N.z1.symm z1)));have i5:IsPair g5 TI (.ref j1) (.ref j2):=k5.extBut _ _ N.io (k4.extBut _ _ N.i2 (k3.extBut _ _ N.io (k2.extBut _ _ N.i1 (k1.extBut _ _ N.zi st.its))));have t5:g5.IsTupleIter j1 a1 (i+1):=((t2.at fun o e=>k3.extBut _ o N.o1.symm e).at fun o e=>k4.extBut _ o N.n12 e).at fun o e=>k5.extBut _ o N.o1.symm e;have t5':g5.IsTupleIter j2 a2 (i+1):=t4.at fun o e=>k5.extBut _ o N.o2.symm e;have hT0:H g5.objs.size=none:=I5.hok.fresh (Nat.le_refl _);have I6:Inv X pins σ (upd H g5.objs.size (.tup [xs[i],ys[i]])) { s with heap:=g5.push { cls:=.type "tuple",data:=.seq #[u,v] } }:=
   I5.laid (t':=s.toks) (fun b o e=>Heap.get?_push_of_some _ e) (Nat.le_refl _) ⟨⟨by show 2<=sizeLine;decide,_,Heap.get?_push_size _ rfl,rfl⟩,[u,v],.cons vu (.cons vv .nil),⟨_,Heap.get?_push_size _ rfl,rfl,_,rfl⟩⟩
  have fn:∀b∈[z,TI,TO,j1,j2],upd H g5.objs.size (.tup [xs[i],ys[i]]) b=none:=fun b hb=>by rw[zI (Nat.ne_of_lt (hfr b hb))];exact(hf b hb).1
  have fz':FpOk X pins (upd H g5.objs.size (.tup [xs[i],ys[i]])) z:=⟨fn z (by simp),fz.2⟩;show wpAny _ _ (Builtin.SmallTypes.ownedTupleHandOut (.ref z) (.ref g5.objs.size) >>= _) _ _ _;refine wpAny_bind ?_;unfold Builtin.SmallTypes.ownedTupleHandOut;have z6:IsZip (g5.push { cls:=.type "tuple",data:=.seq #[u,v] }) z TI TO .ellipsis:=Heap.get?_push_of_some _ z5;refine wpAny_bind (wpAny_setField_rec z6 (by simp) fun g7 z7 k7=>?_)
  replace z7:IsZip g7 z TI TO (rawInt g5.objs.size):=z7
  have I7:=I6.turn1 fz' k7;refine wpAny_setField_rec z7 (by simp) fun g8 z8 k8=>?_
  replace z8:IsZip g8 z TI TO (rawInt g5.objs.size):=z8
  have I8:=I7.turn1 fz' k8;refine wpAny_pure ⟨_,rfl,wpAny_pure ⟨_,rfl,?_⟩⟩;refine wpAny_letOwnedTupleGo_zip z8 fun g9 z9 k9=>?_;have I9:=I8.turn1 fz' k9;have up:∀c o,c≠z->g5.get? c=some o->g9.get? c=some o:=fun c o hc e=>k9.extBut _ _ hc (k8.extBut _ _ hc (k7.extBut _ _ hc (Heap.get?_push_of_some _ e)));refine⟨.ref g5.objs.size,_,I9,rfl,⟨g5.objs.size,xs[i],ys[i],fun xs' h'=>by rw[I.tuple_inj h' hx];exact ex,fun ys' h'=>by rw[I.tuple_inj h' hy];exact ey,hT0,rfl,rfl⟩,⟨z9,up _ _ N.zi i5,⟨u,v,up _ _ N.zo o5⟩,t5.at fun o e=>up _ o N.z1 e,t5'.at fun o e=>up _ o N.z2 e⟩,fn⟩
 done:=by
  intro X hP hw hK hc i pins s σ H E I hf st hg;subst hP hw hK;obtain⟨xs,ys,hx,hy,hend⟩:=hg;obtain⟨p,q,hpq⟩:=st.out;have fz:=hf z (by simp);have fo:=hf TO (by simp);have f1:=hf j1 (by simp);have f2:=hf j2 (by simp);have hh:X.A.handled=none:=I.ok.hd hc;have hT:s.TypeIs (.ref z) "zip":=⟨_,st.zip,rfl⟩;unfold pyNext;refine wpAny_bind (wpAny_attempt (wpAny_callSpecial?_slot (name:=Str.ofString "__next__") hT F.slot_zip_next (wpAny_call_entry F.slot_zip_next hT F.entry_zip_next ?_ (F.args_zip_next_1 _))));show wpAny _ _ (field (.ref z) 2 >>= _) _ _ s;refine wpAny_bind (wpAny_field st.zip rfl (x:=.bool false) rfl ?_);show wpAny _ _ (field (.ref z) 3 >>= _) _ _ s;refine wpAny_bind (wpAny_field st.zip rfl (x:=.ref TI) rfl (wpAny_bind (wpAny_seqItems st.its rfl ?_)));show wpAny _ _ (Builtin.SmallTypes.ownedTupleIsFree (.ref z) >>= _) _ _ s;refine wpAny_bind ?_;unfold Builtin.SmallTypes.ownedTupleIsFree;refine wpAny_bind (wpAny_field st.zip rfl (x:=.none) rfl (wpAny_pure ?_));simp only[if_true];refine wpAny_bind (wpAny_rule (wpAny_bind (wpAny_field st.zip rfl (x:=.ref TO) rfl (wpAny_bind (wpAny_setField_rec st.zip (by simp) fun g1 z1 k1=>?_)))))
  replace z1:IsZip g1 z TI TO .ellipsis:=z1
  have I1:=I.turn1 fz k1;refine wpAny_bind ?_;simp only[List.zipIdx_cons,List.zipIdx_nil,List.forIn_cons,List.forIn_nil];refine wpAny_bind (wpAny_bind (wpAny_onRaise ?_));show wpAny _ _ (Builtin.SmallTypes.nextOf (.ref j1) >>= _) _ _ _;obtain⟨us,ru,tu,_⟩:=I1.tuple hx;have lu:=ru.length;by_cases hxi:xs.length<=i
  ·refine wpAny_bind (z8x (s:={ s with heap:=g1 }) hh (st.one.at fun o e=>k1.extBut _ o N.z1 e) (show g1.IsTuple a1 us.toArray from tu) (by simp;omega) fun g2 e k2 he=>?_);obtain⟨oe,e1,e2⟩:=he;have z2:IsZip g2 z TI TO .ellipsis:=k2 _ _ N.z1.symm z1;have nez:e≠z:=fun q=>by subst q;rw[z2]at e1;cases e1;simp at e2
   have I2:Inv X pins σ H { s with heap:=g2 }:=I1.turned (t':=s.toks) (fun b o hb e=>k2 b o hb e) f1.1 f1.2.1 f1.2.2.2.1 f1.2.2.2.2.1 f1.2.2.2.2.2;refine wpAny_setField_rec z2 (by simp) fun g3 _ k3=>?_;refine wpAny_bind (wpAny_isInstance (T:="StopIteration") (b:=true) ⟨oe,k3.extBut _ _ nez e1,e2⟩ isSubtype_stop (wpAny_pure ⟨rfl,I2.turn1 fz k3⟩))
  ·have lx:i<xs.length:=by omega
   have hyi:ys.length<=i:=by omega
   obtain⟨u,eu,vu⟩:=ru.get (List.getElem?_eq_getElem lx);refine wpAny_bind (z2L (s:={ s with heap:=g1 }) (st.one.at fun o e=>k1.extBut _ o N.z1 e) (show g1.IsTuple a1 us.toArray from tu) (y:=u) (by simpa using eu) fun g2 t2 k2=>wpAny_pure ?_);have I2:=I1.turn1 f1 k2;have o2:IsPair g2 TO p q:=k2.extBut _ _ N.o1 (k1.extBut _ _ N.zo hpq);refine wpAny_bind (wpAny_seqItems o2 rfl (wpAny_bind (wpAny_updateSeq_pair o2 fun g3 o3 k3=>?_)));have I3:=I2.turn1 fo k3;refine wpAny_bind (wpAny_letGo (wpAny_pure ?_));refine wpAny_bind (wpAny_bind (wpAny_onRaise ?_));show wpAny _ _ (Builtin.SmallTypes.nextOf (.ref j2) >>= _) _ _ _;obtain⟨vs,rv,tv,_⟩:=I3.tuple hy;have lv:=rv.length;refine wpAny_bind (z8x (s:={ s with heap:=g3 }) hh (((st.two.at fun o e=>k1.extBut _ o N.z2 e).at fun o e=>k2.extBut _ o N.n12.symm e).at fun o e=>k3.extBut _ o N.o2.symm e) (show g3.IsTuple a2 vs.toArray from tv) (by simp;omega) fun g4 e k4 he=>?_);obtain⟨oe,e1,e2⟩:=he;have z4:IsZip g4 z TI TO .ellipsis:=k4 _ _ N.z2.symm (k3.extBut _ _ N.zo.symm (k2.extBut _ _ N.z1.symm z1));have nez:e≠z:=fun q=>by subst q;rw[z4]at e1;cases e1;simp at e2
   have I4:Inv X pins σ H { s with heap:=g4 }:=I3.turned (t':=s.toks) (fun b o hb e=>k4 b o hb e) f2.1 f2.2.1 f2.2.2.2.1 f2.2.2.2.2.1 f2.2.2.2.2.2;refine wpAny_setField_rec z4 (by simp) fun g5 _ k5=>?_;refine wpAny_bind (wpAny_isInstance (T:="StopIteration") (b:=true) ⟨oe,k5.extBut _ _ nez e1,e2⟩ isSubtype_stop (wpAny_pure ⟨rfl,I4.turn1 fz k5⟩))
 self:=fun A i s Q E st h=>wpAny_pyIter_zip st.zip h
theorem z9H(a1 a2:Addr)(us vs:Array Value):Meets (Builtin.«zip.__new__» ⟨[.type "zip",.ref a1,.ref a2],[]⟩) (fun _ R s=>s.heap.IsTuple a1 us/\s.heap.IsTuple a2 vs/\
  ∀g:Heap,(∀c o,s.heap.get? c=some o->g.get? c=some o)->IsZip g (s.heap.objs.size+4) (s.heap.objs.size+2) (s.heap.objs.size+3) .none->IsPair g (s.heap.objs.size+2) (.ref s.heap.objs.size) (.ref (s.heap.objs.size+1))->
   IsPair g (s.heap.objs.size+3) .none .none->g.IsTupleIter s.heap.objs.size a1 0->g.IsTupleIter (s.heap.objs.size+1) a2 0->R (.ok (.ret (.ref (s.heap.objs.size+4)))) { s with heap:=g }):=.of_wp fun prog w A R s h=>by
 obtain⟨hp,g,d,tk,os⟩:=s;obtain⟨h1,h2,h⟩:=h;have hsub:=sub_zip;have hL1:Heap.IsTuple (Shared.heap ⟨hp,g,d,tk,os⟩) a1 us:=h1;have hL2:Heap.IsTuple (Shared.heap ⟨hp.push { cls:=.type "tuple_iterator",data:=.fields #[.ref a1,.int 0 0] },g,d,tk,os⟩) a2 vs:=by
  obtain⟨o,ho,r⟩:=h2;exact⟨o,Heap.get?_push_of_some _ ho,r⟩
 wp_walk using wpAny_pyIter_tuple hL1,wpAny_pyIter_tuple hL2
 refine⟨_,rfl,?_⟩
 let q1:=hp.push { cls:=.type "tuple_iterator",data:=.fields #[.ref a1,.int 0 0] }
 let q2:=q1.push { cls:=.type "tuple_iterator",data:=.fields #[.ref a2,.int 0 0] }
 let q3:=q2.push { cls:=.type "tuple",data:=.seq #[.ref hp.objs.size,.ref q1.objs.size] }
 let q4:=q3.push { cls:=.type "tuple",data:=.seq #[.none,.none] }
 let q5:=q4.push { cls:=.type "zip",data:=.fields #[.none,.bool false,.bool false,.ref q2.objs.size,.ref q3.objs.size] }
 have n1:q1.objs.size=hp.objs.size+1:=Heap.size_push ..;have n2:q2.objs.size=hp.objs.size+2:=(Heap.size_push ..).trans (by rw[n1]);have n3:q3.objs.size=hp.objs.size+3:=(Heap.size_push ..).trans (by rw[n2]);have n4:q4.objs.size=hp.objs.size+4:=(Heap.size_push ..).trans (by rw[n3]);have u5:∀{c o},q4.get? c=some o->q5.get? c=some o:=fun e=>Heap.get?_push_of_some _ e;have u4:∀{c o},q3.get? c=some o->q5.get? c=some o:=fun e=>u5 (Heap.get?_push_of_some _ e);have u3:∀{c o},q2.get? c=some o->q5.get? c=some o:=fun e=>u4 (Heap.get?_push_of_some _ e);have u2:∀{c o},q1.get? c=some o->q5.get? c=some o:=fun e=>u3 (Heap.get?_push_of_some _ e);have r:=h q5 (fun c o e=>u2 (Heap.get?_push_of_some _ e)) (by
   show q5.get? (hp.objs.size+4)=_;rw[<-n4,<-n3,<-n2];exact Heap.get?_push_size _ rfl) (by
   show q5.get? (hp.objs.size+2)=some { cls:=.type "tuple",data:=.seq #[.ref hp.objs.size,.ref (hp.objs.size+1)] };rw[<-n2,<-n1];exact u4 (Heap.get?_push_size _ rfl)) (by
   show q5.get? (hp.objs.size+3)=_;rw[<-n3];exact u5 (Heap.get?_push_size _ rfl)) ⟨_,u2 (Heap.get?_push_size _ rfl),rfl,rfl⟩ (by
   show q5.IsTupleIter (hp.objs.size+1) a2 0;rw[<-n1];exact⟨_,u3 (Heap.get?_push_size _ rfl),rfl,rfl⟩)
 rw[show hp.objs.size+4=q4.objs.size from n4.symm]at r;exact r
theorem z7l:bootBuiltins "zip"=some (.type "zip"):=by decide +kernel
section
variable{X:Cx}{a b:Expr}{ta:TA}{p pos tp:Pos}{elts:List Expr}
noncomputable def iZip(K:W.Frag)(ta:TA):TI:=fun σ H R=>ta σ H fun vs H1=>∃a1 a2,vs=[.ref a1,.ref a2]/\(∃xs,SqT K H1 a1 xs)/\(∃ys,SqT K H1 a2 ys)/\R (Itz K a1 a2) H1
theorem zAT{x1}(hg:Gl X "zip")(hm:X.mg "zip"=none)(ha:PA X [a,b] ta)(hs:starEach [a,b] X.env=[(false,eval a X.env),(false,eval b X.env)]:=by rfl)(hs2:starEach [b] X.env=[(false,eval b X.env)]:=by rfl):
  PI X (.Tuple elts x1 tp) (.Call (.Name "zip" p) [a,b] [] pos) (iZip X.K ta):=by
 intro pins s σ H R I h;refine Call_ (uh I hg hm z7l (PyProof.Rows.callWith_type1 (thn (ha pos pins s σ H _ I h) fun us s1 ⟨vs,H1,I1,r1,q1⟩=>?_) (by rw[hs,hs2]) (by rw[hs2];rfl)));obtain⟨a1,a2,rfl,⟨xs,hx⟩,⟨ys,hy⟩,q⟩:=q1;obtain⟨u1,u2,rfl,e1,e2⟩:=Vals.two r1;obtain rfl:u1=Value.ref a1:=e1;obtain rfl:u2=Value.ref a2:=e2;obtain⟨us,_,tu,_⟩:=I1.tuple hx;obtain⟨ws,_,tw,_⟩:=I1.tuple hy;refine callType_new F.called_zip (by decide) (F.typeCall_zip_2 _ _) (F.newCall_zip_2 _ _) (fun o=>F.args_object_init_3 o _ _) F.entry_zip_new (z9H a1 a2 us.toArray ws.toArray) ⟨tu,tw,fun g k z5 z3 z4 t1 t2=>?_⟩;show _/\_;refine⟨⟨_,z5,rfl⟩,?_⟩;refine wpAny_pyIter_zip z5 ?_;have fp:∀b∈[s1.heap.objs.size+4,s1.heap.objs.size+2,s1.heap.objs.size+3,s1.heap.objs.size,s1.heap.objs.size+1],FpOk X pins H1 b:=fun b hb=>by
  have hle:s1.heap.objs.size<=b:=by
   simp only[List.mem_cons,List.not_mem_nil,or_false]at hb;rcases hb with rfl | rfl | rfl | rfl | rfl
   ·exact Nat.le_add_right _ _
   ·exact Nat.le_add_right _ _
   ·exact Nat.le_add_right _ _
   ·exact Nat.le_refl _
   ·exact Nat.le_add_right _ _
  exact I1.fpOk hle (I1.hok.fresh hle)
 generalize hn:s1.heap.objs.size=n at *;have ne:∀{i j:Nat},i≠j->n+i≠n+j:=fun h e=>h (Nat.add_left_cancel e);have ne0:∀{j:Nat},0≠j->n≠n+j:=fun h e=>h (Nat.add_left_cancel (n:=n) e);refine⟨n+4,_,_,Itz X.K a1 a2,H1,rfl,I1.kept (t':=s1.toks) (h':=g) k,z7s (z:=n+4) (TI:=n+2) (TO:=n+3) (j1:=n) (j2:=n+1) ⟨ne (by decide),ne (by decide),ne0 (by decide),ne (by decide),ne (by decide),(ne0 (by decide)).symm,ne (by decide),(ne0 (by decide)).symm,ne (by decide),ne0 (by decide)⟩,⟨z5,z3,⟨_,_,z4⟩,t1,t2⟩,fp,q⟩
end
noncomputable def zipD:PyData->PyData->Option (List PyData)
 | .tuple xs,.tuple ys=>some ((xs.zip ys).map fun p=>.tuple [p.1,p.2])
 | _,_=>none
noncomputable def zipA:List PyData->Option (List PyData)
 | [x,y]=>zipD x y
 | _=>none
section
variable{K:W.Frag}{Er:Str->Hp->Prop}{X:Cx}{a b:Expr}{ms:Env'->Mx (List D)}{sa:Env'->Mx Out}{pos p2 p3 tp:Pos}{sts elts:List Stmt}
variable{σ:St}{H:Hp}
theorem z5l{ds:List D}{l:List PyData}(h:onPs zipA ds=some l):∃xs ys,ds=[.p (.tuple xs),.p (.tuple ys)]/\l=(xs.zip ys).map fun p=>.tuple [p.1,p.2]:=by
 unfold onPs at h;obtain⟨zs,e1,e2⟩:=Option.bind_eq_some_iff.mp h
 match zs,e2 with
 | [x,y],e2=>
  replace e2:zipD x y=some l:=e2
  cases x<;>cases y<;>simp only[zipD]at e2<;>try (cases e2;done)
  cases e2
  rename_i xs ys
  refine⟨xs,ys,?_,rfl⟩
  match ds,e1 with
  | [.p u,.p v],e1=>simp[toP]at e1;rw[e1.1,e1.2]
  | [],e1=>simp[toP]at e1
  | [.p u],e1=>simp[toP]at e1
  | .scr _::_,e1=>simp[toP]at e1
  | .town::_,e1=>simp[toP]at e1
  | .fn _::_,e1=>simp[toP]at e1
  | .exc _ _::_,e1=>simp[toP]at e1
  | .p u::.scr _::_,e1=>simp[toP]at e1
  | .p u::.town::_,e1=>simp[toP]at e1
  | .p u::.fn _::_,e1=>simp[toP]at e1
  | .p u::.exc _ _::_,e1=>simp[toP]at e1
  | .p u::.p v::.p z::r,e1=>simp[toP]at e1
  | .p u::.p v::.scr _::r,e1=>simp[toP]at e1
  | .p u::.p v::.town::r,e1=>simp[toP]at e1
  | .p u::.p v::.fn _::r,e1=>simp[toP]at e1
  | .p u::.p v::.exc _ _::r,e1=>simp[toP]at e1
end
open PySem
noncomputable def prD:PyData->Option Env'
 | .tuple [x,y]=>some [some (Sl.val (.p x)),some (Sl.val (.p y))]
 | _=>none
noncomputable def yF(c:Env'->Mx Bool)(e:Env'->Mx D)(ρ:Env'):List PyData->List PyData->Mx (List PyData)
 | [],acc=>pure acc
 | d::r,acc=>Mx.opt (prD d) >>= fun os=>c (ρ++os) >>= fun t=>if t=true then(e (ρ++os) >>= fun y=>Mx.opt (onP some y) >>= fun z=>yF c e ρ r (acc++[z]))else yF c e ρ r acc
noncomputable def z1X(ms:Env'->Mx (List D))(mc:Env'->Mx Bool)(me:Env'->Mx D):Env'->Mx PyData:=fun ρ=>ms ρ >>= fun ds=>Mx.opt ((onPs zipA ds).bind fun l=>if l.length<=lim then some l else none) >>= fun l=>yF mc me ρ l [] >>= fun l=>pure (.list l)
section
variable{K:W.Frag}{Er:Str->Hp->Prop}{X:Cx}{mi:Env'->Mx (List PyData)}{ms:Env'->Mx (List D)}{mc:Env'->Mx Bool}{m:Env'->Mx D}
theorem Frm.ext2{g:Gh}{ow:Ix->Option Addr}{ρ:Env'}{n:Wd}{σ:St}{H:Hp}{d d':D}{v v':V}(f:Frm K g ow ρ n σ H)(r:Rep g (g.S ow) H d v)(r':Rep g (g.S ow) H d' v'):Frm K g ow (ρ++[some (Sl.val d),some (Sl.val d')]) n (σ++[some v,some v']) H:=by
 have:=(f.ext1 r).ext1 r';rw[List.append_assoc,List.append_assoc]at this;exact this
theorem AftG.shift{α γ:Type}{R:Hp->α->γ->Prop}{g:Gh}{H H2:Hp}{r:Res α}{Q:γ->Hp->Prop}(h:AftG (fun _=>R) g Er H r Q)(k:Kp g.T H H2):AftG (fun _=>R) g Er H2 r Q:=by
 cases r with
 | ok a n=>exact fun v H' k' t r=>h v H' (k.trans k') t r
 | err c n=>exact h
 | bad=>exact h
theorem itf{p q:Prop}(h:q):if false=true then p else q:=by rw[if_neg Bool.false_ne_true];exact h
theorem itt{p q:Prop}(h:p):if true=true then p else q:=by rw[if_pos rfl];exact h
theorem zCm{g:Gh}{ow:Ix->Option Addr}{ρ:Env'}{n:Wd}{σ:St}{H H1:Hp}{tc:TT}{d:PyData}{ds acc:List PyData}{ys:List V}{v:V}{K':W.Frag}{Q:VK}{W1:List V->Hp->Prop}{os:St}(htc:∀σ H Q,rdG RT K Er mc σ H Q->tc σ H Q)
  (fr:Frm K g ow ρ n σ H) (k:Kp g.T H1 H) (rv:DatS (g.S ow) H d v) (dd:DatsS (g.S ow) H acc ys) (ho:os.length=2)
  (q:AftG (fun _ H2 x v=>RF g (g.S ow) H1 H2 x v) g Er H ((yF mc m ρ (d::ds) acc >>= fun l=>pure (PyData.list l)) n) Q)
  (w:∀acc' n' ys' H',Kp g.T H1 H'->Twn g H' n'->DatsS (g.S ow) H' acc' ys'->AftG (fun _ H2 x v=>RF g (g.S ow) H1 H2 x v) g Er H' ((yF mc m ρ ds acc' >>= fun l=>pure (PyData.list l)) n') Q->(∀y,ys'=ys++[y]->W1 ys' H')/\(ys'=ys->W1 ys' H')) :
  g2 K' σ.length v (σ++os) H fun σ' H''=>∃os',os'.length=2/\σ'=σ++os'/\tc σ' H'' fun b H3=>if b=true then(rdG RE K Er m) σ' H3 fun y H4=>W1 (ys++[y]) H4 else W1 ys H3:=by
 simp only[yF,yV]at q;obtain⟨o',eo,q⟩:=yn q;unfold prD at eo;split at eo
 next x y=>
  cases eo;obtain⟨a,xs,rfl,h1,h2⟩:=yj (T:=N0) (DatS.one (fun _ z=>z.elim) rv);simp only[DatsS]at h2;obtain⟨u,r1,rfl,d1,w',r2,rfl,d2,rfl⟩:=h2
  match os,ho with
  | [o1,o2],_=>
  refine⟨a,[u,w'],rfl,SqT.of h1,rfl,u,[w'],rfl,w',[],rfl,rfl,?_⟩;rw[z9I];refine⟨_,rfl,rfl,?_⟩;have f1:Frm K g ow (ρ++[some (Sl.val (.p x)),some (Sl.val (.p y))]) n (σ++[some u,some w']) H:=fr.ext2 d1 d2;refine htc _ _ _ ⟨g,ow,_,n,f1,AftG.bind q fun tb n2 tb' H3 k3 t3 r3 c3=>?_⟩;cases r3;have q3:=c3 (R3:=fun _ H2 x v=>RF g (g.S ow) H1 H2 x v) fun _ _ _ z=>z;cases tb with
  | false=>
   refine itf ((w acc n2 ys H3 (k.trans k3) t3 (DatsS.kp (k3.mono Gh.ts) (fun _ z=>.inl z) dd) ?_).2 rfl);simpa using q3
  | true=>
   simp only[if_true,yV]at q3;refine itt ⟨g,ow,_,n2,f1.kp k3 t3,AftG.bind q3 fun yv n4 yv' H4 k4 t4 r4 c4=>?_⟩;have q4:=c4 (R3:=fun _ H2 x v=>RF g (g.S ow) H1 H2 x v) fun _ _ _ z=>z;obtain⟨z,ez,q5⟩:=yn q4;obtain⟨z',rfl,ez2⟩:=zf ez;cases ez2;exact(w (acc++[z]) n4 (ys++[yv']) H4 ((k.trans k3).trans k4) t4 ((DatsS.kp ((k3.trans k4).mono Gh.ts) (fun _ z=>.inl z) dd).append (.cons r4 .nil)) q5).1 _ rfl
 next=>cases eo
theorem z4z{tc:TT}{σ:St}{H:Hp}{Q:VK}{K':W.Frag}(htc:∀σ H Q,rdG RT K Er mc σ H Q->tc σ H Q)(h:rdG RF K Er (z1X ms mc m) σ H Q):z8h K' (iZip X.K (rdG RA K Er ms)) tc (rdG RE K Er m) σ H Q:=by
 refine rd1 h ww fun g ow ρ n dd0 vv H0 H1 fr k01 r q=>?_;obtain⟨l,el,q⟩:=yn q;obtain⟨l',el,ez⟩:=Option.bind_eq_some_iff.mp el;split at ez
 case isFalse=>cases ez
 rename_i hlim
 cases ez;obtain⟨ds,es,rfl,rfl⟩:=z5l el;obtain⟨x,y,rfl,rx,ry⟩:=all2 r;obtain⟨a1,xs,rfl,h1,d1⟩:=(show ∃a xs,x=.ref a/\H1 a=some (.tup xs)/\DatsS (g.S ow) H1 ds xs by simpa only[Rep,DatS]using rx);obtain⟨a2,ys0,rfl,h2,d2⟩:=(show ∃a xs,y=.ref a/\H1 a=some (.tup xs)/\DatsS (g.S ow) H1 es xs by simpa only[Rep,DatS]using ry);have l1:=d1.length;have l2:=d2.length;refine⟨a1,a2,rfl,⟨xs,SqT.of h1⟩,⟨ys0,SqT.of h2⟩,?_⟩;generalize hL:((ds.zip es).map fun p=>PyData.tuple [p.1,p.2])=L at q hlim;have hlen:L.length=min xs.length ys0.length:=by rw[<-hL,List.length_map,List.length_zip,l1,l2]
 refine⟨L.length,fun i ys H'=>∃acc n',Kp g.T H1 H'/\Twn g H' n'/\DatsS (g.S ow) H' acc ys/\AftG (fun _ H2 x v=>RF g (g.S ow) H1 H2 x v) g Er H' ((yF mc m ρ (L.drop i) acc >>= fun l=>pure (PyData.list l)) n') Q,
  ⟨[],n,Kp.refl _ _,fr.twn,.nil,by rw[List.drop_zero];exact q.imp (fun _ _ _ z=>z) fun _ _ z=>z⟩,⟨?_,fun ys H' ⟨_,_,k,_⟩=>?_,fun i ys H' hi ⟨_,_,k,_⟩=>?_,fun i ys H' os v H'' hi ho ⟨acc,n',k,t,dd,q⟩ y=>?_⟩,fun ys H' ⟨acc,n',k,t,dd,q⟩ D hD=>?_⟩
 ·exact yt hlim
 ·exact⟨xs,ys0,SqT.of (k _ _ h1 (.inr ⟨_,rfl⟩)),SqT.of (k _ _ h2 (.inr ⟨_,rfl⟩)),by omega⟩
 ·exact⟨xs,ys0,SqT.of (k _ _ h1 (.inr ⟨_,rfl⟩)),SqT.of (k _ _ h2 (.inr ⟨_,rfl⟩)),by omega,by omega⟩
 ·have k1:H' a1=some (.tup xs):=k _ _ h1 (.inr ⟨_,rfl⟩);have k2:H' a2=some (.tup ys0):=k _ _ h2 (.inr ⟨_,rfl⟩);obtain⟨T,u,v,hu,hv,hT,rfl,rfl⟩:=y;have hu:=hu xs (SqT.of k1);have hv:=hv ys0 (SqT.of k2);obtain⟨u',eu,ru⟩:=d1.get (i:=i) (List.getElem?_eq_getElem (by omega));obtain⟨v',ev,rv⟩:=d2.get (i:=i) (List.getElem?_eq_getElem (by omega));rw[hu]at eu;cases eu;rw[hv]at ev;cases ev;have sm:Same H' (upd H' T (.tup [u,v])):=Same.new hT;have k3:Kp g.T H1 (upd H' T (.tup [u,v])):=k.trans sm.kp;have t3:=sm.twn t;have mv:∀{d:PyData} {w:V},DatS (g.S ow) H1 d w->DatS (g.S ow) (upd H' T (.tup [u,v])) d w:=fun r=>DatS.kp (k3.mono Gh.ts) (fun _ z=>.inl z) r;have eL:L[i]=PyData.tuple [ds[i]'(by omega),es[i]'(by omega)]:=by subst hL;simp
  have rT:DatS (g.S ow) (upd H' T (.tup [u,v])) L[i] (.ref T):=by
   rw[eL];simp only[DatS];exact⟨T,[u,v],rfl,zG,.cons (mv ru) (.cons (mv rv) .nil)⟩
  rw[List.drop_eq_getElem_cons hi]at q;have dd':DatsS (g.S ow) (upd H' T (.tup [u,v])) acc ys:=DatsS.kp (Kp.of sm) (fun _ z=>.inl z) dd;have q':AftG (fun _ H2 x v=>RF g (g.S ow) H1 H2 x v) g Er (upd H' T (.tup [u,v])) ((yF mc m ρ (L[i]::L.drop (i+1)) acc >>= fun l=>pure (PyData.list l)) n') Q:=AftG.shift q sm.kp;exact zCm (W1:=fun ys H'=>∃acc n',Kp g.T H1 H'/\Twn g H' n'/\DatsS (g.S ow) H' acc ys/\AftG (fun _ H2 x v=>RF g (g.S ow) H1 H2 x v) g Er H' ((yF mc m ρ (L.drop (i+1)) acc >>= fun l=>pure (PyData.list l)) n') Q) htc (fr.kp k3 t3) k3 rT dd' ho q' fun acc' n2 ys' H2 k2 t2 d2 q2=>⟨fun _ _=>⟨acc',n2,k2,t2,d2,q2⟩,fun _=>⟨acc',n2,k2,t2,d2,q2⟩⟩
 ·rw[List.drop_of_length_le (by omega)]at q;have q:AftG (fun _ H2 x v=>RF g (g.S ow) H1 H2 x v) g Er H' (.ok (.list acc) n') Q:=q;refine q (.ref D) _ (Same.new hD).kp ((Same.new hD).twn t) ⟨D,rfl,xZ k t hD,Pl.upd,?_⟩;simp only[Dat1];exact⟨D,ys,rfl,id,zG,DatsS.kp (Kp.of (Same.new hD)) (fun b z=>z.elim .inl fun e=>.inr (e▸hD)) dd⟩
variable{elt it tg:Expr}{pos:Pos}
theorem z6u{N N' xs:List Str}{sc scope:Scope}{ifs:List Expr}{tc:TT}{K':W.Frag}{a b:Expr}{x1}{elts:List Expr}{tp p p3:Pos}(hc:X.calm=true)(hN:X.N=N)(hsc:X.env.scope=sc)(h:uz N sc scope xs N'=true)(h2:xs.length=2)(htc:∀σ H Q,rdG RT K Er mc σ H Q->tc σ H Q)
  (hgl:Gl X "zip") (hm:X.mg "zip"=none) (ha:DA K Er X [a,b] ms) (hf:∀C s H fp,PF (zY X scope N' C s H fp) ifs tc) (he:∀C s H fp,DE K Er (zY X scope N' C s H fp) elt m) (hg:∀C s H fp,PG (zY X scope N' C s H fp) (.Tuple elts x1 tp) (g2 K' N.length))
  (hs1:starEach [a,b] X.env=[(false,eval a X.env),(false,eval b X.env)]:=by rfl) (hs2:starEach [b] X.env=[(false,eval b X.env)]:=by rfl)
  (hs:∀x,foldedSetIterable (.Call (.Name "zip" p) [a,b] [] p3) X.env x=pure x:=by intro _;rfl):DF K Er X (.ListComp elt [⟨.Tuple elts x1 tp,.Call (.Name "zip" p) [a,b] [] p3,ifs,0⟩] scope pos) (z1X ms mc m):=(z7b hc hN hsc h h2 (zAT hgl hm ha hs1 hs2) hf he hg hs).imp fun σ H Q h=>z4z htc h
theorem zAZ{i:Nat}{x y:Str}{px py tp:Pos}{k:Nat}(hc:X.calm=true)(hN:X.N.Nodup)(h1:X.N[i]?=some x)(h2:X.N[i+1]?=some y)(hx:Loc X.env.scope x)(hy:Loc X.env.scope y)
  (hfx:X.fn x=true\/X.env.scope.names.lookup x=some .local:=by first | exact .inl rfl | exact .inr rfl | assumption) (hfy:X.fn y=true\/X.env.scope.names.lookup y=some .local:=by first | exact .inl rfl | exact .inr rfl | assumption):PG X (.Tuple [.Name x px,.Name y py] k tp) (g2 X.K i):=
 zBW hc (z3M (yc hN h1 hx hfx) (z3M (yc hN h2 hy hfy) z9i))
end
section
variable{X:Cx}{tg:Expr}
end
section
variable{K:W.Frag}{Er:Str->Hp->Prop}{X:Cx}{a b c tg:Expr}{ms:Env'->Mx (List D)}
end
section
variable{prog:Program}{w:World}{A:Around}{E:Value->Shared->Prop}{s:Shared}
end
section
variable{X:Cx}{a b:Expr}{ta:TA}{p pos tp:Pos}{elts:List Expr}
end
section
variable{K:W.Frag}{Er:Str->Hp->Prop}{X:Cx}{a b:Expr}{ms:Env'->Mx (List D)}{sa:Env'->Mx Out}{pos p2 p3 tp:Pos}{sts elts:List Stmt}
variable{σ:St}{H:Hp}
end
section
variable{K:W.Frag}{Er:Str->Hp->Prop}{X:Cx}{a b:Expr}{pos:Pos}{ma mb:Env'->Mx D}
end
open PySem PySem.SetTable
structure BelowIs(P:List Nat)(j i:Nat):Prop where
 le:i<=P.length
 lo:∀k x,k<i->P[k]?=some x->x<j
 hi:∀k x,i<=k->P[k]?=some x->j<=x
theorem z16{P:List Nat}(ris:P.Pairwise (·<·))(j:Nat):∀(fuel lo hi:Nat),hi - lo<=fuel->lo<=hi->hi<=P.length->(∀k x,k<lo->P[k]?=some x->x<j)->(∀k x,hi<=k->P[k]?=some x->j<=x)->BelowIs P j (below.go P.toArray j fuel lo hi)
 | 0,lo,hi,h1,h2,h3,h4,h5=>by
  have:lo=hi:=by omega
  subst this;exact⟨h3,h4,h5⟩
 | fuel+1,lo,hi,h1,h2,h3,h4,h5=>by
  unfold below.go;have ord:∀{a b:Nat} {x y:Nat},a<b->P[a]?=some x->P[b]?=some y->x<y:=fun{a b x y} hab ha hb=>by
   obtain⟨ha',rfl⟩:=List.getElem?_eq_some_iff.mp ha;obtain⟨hb',rfl⟩:=List.getElem?_eq_some_iff.mp hb;exact List.pairwise_iff_getElem.mp ris a b ha' hb' hab
  by_cases c:lo<hi
  ·rw[if_pos c];have hm:(lo+hi) / 2<P.length:=by omega
   have em:P.toArray.getD ((lo+hi) / 2) j=P[(lo+hi) / 2]:=by
    rw[Array.getD_eq_getD_getElem?];simp[hm]
   have es:P[(lo+hi) / 2]?=some P[(lo+hi) / 2]:=List.getElem?_eq_getElem hm;dsimp only;rw[em];split
   next d=>
    refine z16 ris j fuel _ _ (by omega) (by omega) h3 (fun k x hk hx=>?_) h5;rcases Nat.lt_or_ge k ((lo+hi) / 2)with hlt | hge
    ·have:=ord hlt hx es;omega
    ·have:k=(lo+hi) / 2:=by omega
     subst this;rw[es]at hx;cases hx;exact d
   next d=>
    refine z16 ris j fuel _ _ (by omega) (by omega) (by omega) h4 fun k x hk hx=>?_;rcases Nat.lt_or_ge ((lo+hi) / 2) k with hlt | hge
    ·have:=ord hlt es hx;omega
    ·have:k=(lo+hi) / 2:=by omega
     subst this;rw[es]at hx;cases hx;omega
  ·rw[if_neg c]
   have:lo=hi:=by omega
   subst this;exact⟨h3,h4,h5⟩
theorem z1B{P:List Nat}(ris:P.Pairwise (·<·))(j:Nat):BelowIs P j (below P.toArray j):=by
 unfold below;refine z16 ris j _ _ _ (by simp) (by omega) (by simp) (fun k x hk=>by omega) fun k x hk hx=>?_
 have:=(List.getElem?_eq_some_iff.mp hx).1;simp at hk;omega
theorem wQ{P:List Nat}(ris:P.Pairwise (·<·)){i j:Nat}(h:P[i]?=some j):below P.toArray j=i:=by
 have B:=z1B ris j;generalize below P.toArray j=b at B;rcases Nat.lt_trichotomy b i with c | c | c
 ·have hb:b<P.length:=by have:=(List.getElem?_eq_some_iff.mp h).1;omega
  have e:=List.getElem?_eq_getElem hb;have h1:=B.hi b _ (Nat.le_refl _) e;obtain⟨hi,rfl⟩:=List.getElem?_eq_some_iff.mp h
  have:=List.pairwise_iff_getElem.mp ris b i hb hi c;omega
 ·exact c
 ·have:=B.lo i j c h;omega
structure Cl(t:SetTable)(P:List Nat):Prop where
 pl:t.place=P.toArray
 du:t.dummies=#[]
 ris:P.Pairwise (·<·)
theorem Cl.live{t:SetTable}{P:List Nat}(c:Cl t P){i j:Nat}(h:P[i]?=some j):t.slot j=.live i:=by
 unfold SetTable.slot;rw[c.pl,wQ c.ris h];simp[h]
theorem Cl.empty{t:SetTable}{P:List Nat}(c:Cl t P){j:Nat}(h:j∉P):t.slot j=.empty:=by
 unfold SetTable.slot;rw[c.pl,c.du]
 have:¬(P.toArray[below P.toArray j]? == some j)=true:=fun z=>by
  have:P[below P.toArray j]?=some j:=by simpa using z
  exact h (List.mem_of_getElem? this)
 rw[if_neg this,if_neg (by unfold has;simp)]
noncomputable def adv(mask:Nat)(p:Probe):Probe:=if p.more>0 then{ p with j:=p.j+1,more:=p.more - 1 }else{ p with j:=(leap mask p.i p.perturb).1,more:=runEnd mask (leap mask p.i p.perturb).1 - (leap mask p.i p.perturb).1,i:=(leap mask p.i p.perturb).1,perturb:=(leap mask p.i p.perturb).2 }
theorem wg(t:SetTable)(p:Probe):t.advance p=adv t.mask p:=by unfold SetTable.advance adv;split<;>rfl
noncomputable def stP(mask:Nat)(h:Int):Nat->Probe
 | 0=>{ j:=bits h % (mask+1),more:=runEnd mask (bits h % (mask+1)) - bits h % (mask+1),i:=bits h % (mask+1),perturb:=bits h,dummy:=none }
 | n+1=>adv mask (stP mask h n)
theorem z76(t:SetTable)(h:Int):t.probeStart h=stP t.mask h 0:=rfl
noncomputable def sq(mask:Nat)(h:Int)(n:Nat):Nat:=(stP mask h n).j
theorem z3n(mask:Nat)(h:Int):∀n,(stP mask h n).dummy=none
 | 0=>rfl
 | n+1=>by
  show(adv mask (stP mask h n)).dummy=none;unfold adv;split<;>exact z3n mask h n
noncomputable def rn(mask:Nat)(h:Int):Nat->Nat×Nat
 | 0=>(bits h % (mask+1),bits h)
 | k+1=>leap mask (rn mask h k).1 (rn mask h k).2
noncomputable def stL(mask:Nat)(h:Int):Nat->Nat
 | 0=>0
 | k+1=>stL mask h k+(runEnd mask (rn mask h k).1 - (rn mask h k).1)+1
theorem z8U(mask i:Nat):i<=runEnd mask i/\runEnd mask i<=i+9:=by unfold runEnd;split<;>omega
theorem z3O(mask:Nat)(h:Int):∀(k q:Nat),q<=runEnd mask (rn mask h k).1 - (rn mask h k).1->stP mask h (stL mask h k+q)={ j:=(rn mask h k).1+q,more:=runEnd mask (rn mask h k).1 - (rn mask h k).1 - q,i:=(rn mask h k).1,perturb:=(rn mask h k).2,dummy:=none }
 | 0,0,_=>rfl
 | k+1,0,_=>by
  have e:=z3O mask h k (runEnd mask (rn mask h k).1 - (rn mask h k).1) (Nat.le_refl _);show adv mask (stP mask h (stL mask h k+(runEnd mask (rn mask h k).1 - (rn mask h k).1)))=_;rw[e];unfold adv;rw[if_neg (by simp)];rfl
 | k,q+1,hq=>by
  have e:=z3O mask h k q (by omega);show adv mask (stP mask h (stL mask h k+q))=_;rw[e];unfold adv;rw[if_pos (show runEnd mask (rn mask h k).1 - (rn mask h k).1 - q>0 by omega)];simp only[Probe.mk.injEq,and_true,true_and];omega
theorem z92(mask:Nat)(h:Int):∀k,stL mask h k<=10*k
 | 0=>Nat.le_refl _
 | k+1=>by
  have h1:=z92 mask h k;have h2:=z8U mask (rn mask h k).1;show stL mask h k+_+1<=_;omega
theorem z0d(mask:Nat)(h:Int):∀k,(rn mask h k).2=bits h / 32 ^ k
 | 0=>by simp[rn]
 | k+1=>by
  show(rn mask h k).2 / 32=_;rw[z0d mask h k,Nat.div_div_eq_div_mul,Nat.pow_succ]
theorem z9C(h:Int):bits h<2 ^ 64:=by
 unfold bits;have h1:0<=h % (2 ^ 64:Int):=Int.emod_nonneg _ (by decide);have h2:h % (2 ^ 64:Int)<2 ^ 64:=Int.emod_lt_of_pos _ (by decide);omega
noncomputable def orb(M:Nat):Nat->Nat->Nat
 | 0,i=>i
 | r+1,i=>orb M r ((i*5+1) % M)
theorem zAq(mask:Nat)(h:Int):∀r,(rn mask h (13+r)).1=orb (mask+1) r (rn mask h 13).1:=by
 have z:∀k,(rn mask h (13+k)).2=0:=fun k=>by
  rw[z0d];refine Nat.div_eq_of_lt (Nat.lt_of_lt_of_le (z9C h) ?_);rw[Nat.pow_add];exact Nat.le_trans (by decide:2 ^ 64<=32 ^ 13) (Nat.le_mul_of_pos_right _ (Nat.pow_pos (by decide)))
 have st:∀k,(rn mask h (13+k+1)).1=((rn mask h (13+k)).1*5+1) % (mask+1):=fun k=>by
  show((rn mask h (13+k)).1*5+1+(rn mask h (13+k)).2 / 32) % (mask+1)=_;rw[z k]
 have gen:∀(r k:Nat),(rn mask h (13+k+r)).1=orb (mask+1) r (rn mask h (13+k)).1:=by
  intro r
  induction r with
  | zero=>intro k;rfl
  | succ r ih=>
   intro k;rw[show 13+k+(r+1)=13+(k+1)+r by omega,ih (k+1),show 13+(k+1)=13+k+1 from rfl,st k];rfl
 intro r;exact gen r 0
theorem zCc(mask:Nat)(h:Int):∀k,(rn mask h k).1<mask+1
 | 0=>Nat.mod_lt _ (by omega)
 | k+1=>by
  show(_ % (mask+1))<_;exact Nat.mod_lt _ (by omega)
noncomputable def orbL(M:Nat):Nat->Nat->List Nat
 | 0,_=>[]
 | n+1,i=>i::orbL M n ((i*5+1) % M)
theorem z19{M:Nat}:∀{n i e:Nat},e∈orbL M n i->∃r,r<n/\orb M r i=e
 | 0,i,e,h=>by cases h
 | n+1,i,e,h=>by
  rcases List.mem_cons.mp h with h | h
  ·exact⟨0,by omega,h.symm⟩
  ·obtain⟨r,hr,e1⟩:=z19 h;exact⟨r+1,by omega,e1⟩
theorem z0x(M:Nat):∀(a b i:Nat),orb M (a+b) i=orb M b (orb M a i)
 | 0,b,i=>by rw[Nat.zero_add];rfl
 | a+1,b,i=>by
  rw[show a+1+b=(a+b)+1 by omega];exact z0x M a b _
theorem z1D{M:Nat}(h0:orb M M 0=0)(hc:∀e,e<M->e∈orbL M M 0){i e:Nat}(hi:i<M)(he:e<M):∃r,r<M/\orb M r i=e:=by
 obtain⟨a,ha,ea⟩:=z19 (hc i hi);obtain⟨b,hb,eb⟩:=z19 (hc e he);by_cases h:a<=b
 ·refine⟨b - a,by omega,?_⟩;rw[<-ea,<-z0x,show a+(b - a)=b by omega,eb]
 ·refine⟨b+M - a,by omega,?_⟩;rw[<-ea,<-z0x,show a+(b+M - a)=M+b by omega,z0x,h0,eb]
theorem orb8:orb 8 8 0=0/\∀e:Fin 8,e.val∈orbL 8 8 0:=by decide +kernel
theorem zCA:orb 32 32 0=0/\∀e:Fin 32,e.val∈orbL 32 32 0:=by decide +kernel
theorem z8b:orb 128 128 0=0/\∀e:Fin 128,e.val∈orbL 128 128 0:=by decide +kernel
def mk3(mask:Nat):Prop:=mask=7\/mask=31\/mask=127
theorem z9B{mask:Nat}(hm:mk3 mask){i e:Nat}(hi:i<mask+1)(he:e<mask+1):∃r,r<mask+1/\orb (mask+1) r i=e:=by
 rcases hm with rfl | rfl | rfl
 ·exact z1D orb8.1 (fun e he=>orb8.2 ⟨e,he⟩) hi he
 ·exact z1D zCA.1 (fun e he=>zCA.2 ⟨e,he⟩) hi he
 ·exact z1D z8b.1 (fun e he=>z8b.2 ⟨e,he⟩) hi he
theorem z6Y{mask:Nat}(hm:mk3 mask)(h:Int){e:Nat}(he:e<=mask):∃k,k<mask+14/\(rn mask h k).1=e:=by
 obtain⟨r,hr,e1⟩:=z9B hm (zCc mask h 13) (show e<mask+1 by omega);exact⟨13+r,by omega,by rw[zAq,e1]⟩
theorem zCB{mask:Nat}(hm:mk3 mask)(h:Int){e:Nat}(he:e<=mask):∃n,n<10*(mask+15)/\sq mask h n=e:=by
 obtain⟨k,hk,e1⟩:=z6Y hm h he;refine⟨stL mask h k,by have:=z92 mask h k;omega,?_⟩
 have:=z3O mask h k 0 (Nat.zero_le _);rw[Nat.add_zero]at this;unfold sq;rw[this];show(rn mask h k).1+0=e;omega
noncomputable abbrev Zs:=List (Nat×(Int×Value))
noncomputable def zP(Z:Zs):List Nat:=Z.map (·.1)
noncomputable def zE(Z:Zs):List (Int×Value):=Z.map (·.2)
def Rc(mask:Nat)(P:List Nat)(h:Int)(j:Nat):Prop:=∃n,sq mask h n=j/\∀k,k<n->sq mask h k∈P
structure Tb(mask:Nat)(Z:Zs):Prop where
 ris:(zP Z).Pairwise (·<·)
 bnd:∀j∈zP Z,j<=mask
 few:Z.length<=mask
 rc:∀z∈Z,Rc mask (zP Z) z.2.1 z.1
theorem Rc.mono{mask:Nat}{P P':List Nat}{h:Int}{j:Nat}(r:Rc mask P h j)(hP:∀x∈P,x∈P'):Rc mask P' h j:=by
 obtain⟨n,e,k⟩:=r;exact⟨n,e,fun q hq=>hP _ (k q hq)⟩
theorem z69{α:Type}[DecidableEq α]:∀{l P:List α},l.Nodup->(∀x∈l,x∈P)->l.length<=P.length
 | [],_,_,_=>Nat.zero_le _
 | a::l,P,nd,h=>by
  have⟨h1,h2⟩:=List.nodup_cons.mp nd;have ha:=h a List.mem_cons_self
  have:=z69 (l:=l) (P:=P.erase a) h2 fun x hx=>(List.mem_erase_of_ne (fun e:x=a=>h1 (e▸hx))).mpr (h x (List.mem_cons_of_mem _ hx));rw[List.length_erase_of_mem ha]at this
  have:0<P.length:=List.length_pos_of_mem ha;rw[List.length_cons];omega
theorem hole{mask:Nat}{P:List Nat}(hl:P.length<=mask):∃e,e<=mask/\e∉P:=by
 refine Classical.byContradiction fun hno=>?_;have sub:List.range (mask+1) ⊆ P:=fun x hx=>Classical.byContradiction fun hx'=>hno ⟨x,by have:=List.mem_range.mp hx;omega,hx'⟩
 have:=z69 (List.nodup_range (n:=mask+1)) fun x hx=>sub hx;rw[List.length_range]at this;omega
theorem z4d{mask:Nat}(hm:mk3 mask){P:List Nat}(hl:P.length<=mask)(h:Int):∃n,n<10*(mask+15)/\sq mask h n∉P/\∀k,k<n->sq mask h k∈P:=by
 obtain⟨e,he,hn⟩:=hole hl;obtain⟨n0,hn0,e0⟩:=zCB hm h he
 have:∀N,(∃n,n<=N/\sq mask h n∉P)->∃n,n<=N/\sq mask h n∉P/\∀k,k<n->sq mask h k∈P:=by
  intro N
  induction N with
  | zero=>rintro⟨n,hn,h1⟩;exact⟨n,hn,h1,fun k hk=>by omega⟩
  | succ N ih=>
   rintro⟨n,hn,h1⟩;by_cases c:∃n,n<=N/\sq mask h n∉P
   ·obtain⟨n',h2,h3⟩:=ih c;exact⟨n',by omega,h3⟩
   ·refine⟨n,hn,h1,fun k hk=>Classical.byContradiction fun hk'=>c ⟨k,by omega,hk'⟩⟩
 obtain⟨n,h1,h2⟩:=this n0 ⟨n0,Nat.le_refl _,by rw[e0];exact hn⟩;exact⟨n,by omega,h2⟩
theorem zC6(mask:Nat)(h:Int):∀n,(stP mask h n).j+(stP mask h n).more<=mask
 | 0=>by
  have h1:bits h % (mask+1)<mask+1:=Nat.mod_lt _ (by omega);show bits h % (mask+1)+(runEnd mask (bits h % (mask+1)) - bits h % (mask+1))<=mask;unfold runEnd;split<;>omega
 | n+1=>by
  have ih:=zC6 mask h n;show(adv mask (stP mask h n)).j+(adv mask (stP mask h n)).more<=mask;unfold adv;split
  ·show(stP mask h n).j+1+((stP mask h n).more - 1)<=mask;omega
  ·have h1:(leap mask (stP mask h n).i (stP mask h n).perturb).1<mask+1:=Nat.mod_lt _ (by omega);show(leap mask (stP mask h n).i (stP mask h n).perturb).1+(runEnd mask (leap mask (stP mask h n).i (stP mask h n).perturb).1 - (leap mask (stP mask h n).i (stP mask h n).perturb).1)<=mask;generalize(leap mask (stP mask h n).i (stP mask h n).perturb).1=x at h1;unfold runEnd;split<;>omega
theorem z9G(mask:Nat)(h:Int)(n:Nat):sq mask h n<=mask:=by have:=zC6 mask h n;unfold sq;omega
theorem z3r{t:SetTable}{P:List Nat}(c:Cl t P)(hashAt:Nat->Int)(h:Int):∀(d fuel n:Nat),d<fuel->(∀k,k<d->∃i,P[i]?=some (sq t.mask h (n+k))/\hashAt i≠h)->sq t.mask h (n+d)∉P->probe.go t hashAt h fuel (stP t.mask h n)=some (.empty (sq t.mask h (n+d)) none)
 | d,0,n,hd,_,_=>by omega
 | 0,fuel+1,n,_,_,hf=>by
  unfold probe.go;rw[show t.slot (stP t.mask h n).j=.empty from c.empty hf,z3n];rfl
 | d+1,fuel+1,n,hd,hl,hf=>by
  obtain⟨i,h1,h2⟩:=hl 0 (by omega);unfold probe.go;rw[show t.slot (stP t.mask h n).j=.live i from c.live h1];dsimp only;rw[if_neg (by simpa using h2),wg]
  have:=z3r c hashAt h d fuel (n+1) (by omega) (fun k hk=>by
   obtain⟨i,h1,h2⟩:=hl (k+1) (by omega);exact⟨i,by rw[show n+1+k=n+(k+1) by omega];exact h1,h2⟩) (by rw[show n+1+d=n+(d+1) by omega];exact hf)
  rw[show n+1+d=n+(d+1) by omega]at this;exact this
theorem z65{t:SetTable}{P:List Nat}(c:Cl t P)(hashAt:Nat->Int)(h:Int){i0:Nat}:∀(d fuel n:Nat),d<fuel->(∀k,k<d->∃i,P[i]?=some (sq t.mask h (n+k))/\hashAt i≠h)->P[i0]?=some (sq t.mask h (n+d))->hashAt i0=h->probe.go t hashAt h fuel (stP t.mask h n)=some (.candidate (sq t.mask h (n+d)) i0 (stP t.mask h (n+d+1)))
 | d,0,n,hd,_,_,_=>by omega
 | 0,fuel+1,n,_,_,h1,h2=>by
  unfold probe.go;rw[show t.slot (stP t.mask h n).j=.live i0 from c.live h1];dsimp only;rw[if_pos (by simpa using h2),wg];rfl
 | d+1,fuel+1,n,hd,hl,e1,e2=>by
  obtain⟨i,h1,h2⟩:=hl 0 (by omega);unfold probe.go;rw[show t.slot (stP t.mask h n).j=.live i from c.live h1];dsimp only;rw[if_neg (by simpa using h2),wg]
  have:=z65 c hashAt h (i0:=i0) d fuel (n+1) (by omega) (fun k hk=>by
   obtain⟨i,h1,h2⟩:=hl (k+1) (by omega);exact⟨i,by rw[show n+1+k=n+(k+1) by omega];exact h1,h2⟩) (by rw[show n+1+d=n+(d+1) by omega];exact e1) e2
  rw[show n+1+d=n+(d+1) by omega]at this;exact this
theorem z4Z{t:SetTable}{P:List Nat}(c:Cl t P)(hashAt:Nat->Int)(h:Int){nF:Nat}(hF:nF<10*(t.mask+15))(h1:sq t.mask h nF∉P)(h2:∀k,k<nF->sq t.mask h k∈P){n:Nat}(hn:n<=nF):
  (t.probe hashAt h (stP t.mask h n)=some (.empty (sq t.mask h nF) none)/\∀k,n<=k->k<nF->∀i,P[i]?=some (sq t.mask h k)->hashAt i≠h)\/
  ∃q i,n<=q/\q<nF/\P[i]?=some (sq t.mask h q)/\hashAt i=h/\t.probe hashAt h (stP t.mask h n)=some (.candidate (sq t.mask h q) i (stP t.mask h (q+1)))/\∀k,n<=k->k<q->∀i,P[i]?=some (sq t.mask h k)->hashAt i≠h:=by
 have uniq:∀{i i' j:Nat},P[i]?=some j->P[i']?=some j->i=i':=fun{i i' j} a b=>by
  have:=wQ c.ris a;rw[wQ c.ris b]at this;exact this.symm
 have gen:∀d,n+d<=nF->(∀k,k<d->∃i,P[i]?=some (sq t.mask h (n+k))/\hashAt i≠h)\/∃q i,n<=q/\q<n+d/\P[i]?=some (sq t.mask h q)/\hashAt i=h/\∀k,k<q - n->∃i,P[i]?=some (sq t.mask h (n+k))/\hashAt i≠h:=by
  intro d
  induction d with
  | zero=>intro _;exact .inl fun k hk=>by omega
  | succ d ih=>
   intro hd;rcases ih (by omega)with hl | ⟨q,i,a,b,r⟩
   ·obtain⟨i,hi⟩:=List.getElem?_of_mem (h2 (n+d) (by omega));by_cases e:hashAt i=h
    ·exact .inr ⟨n+d,i,by omega,by omega,hi,e,fun k hk=>hl k (by omega)⟩
    ·refine .inl fun k hk=>?_;rcases Nat.lt_or_ge k d with hlt | hge
     ·exact hl k hlt
     ·have:k=d:=by omega
      subst this;exact⟨i,hi,e⟩
   ·exact .inr ⟨q,i,a,by omega,r⟩
 have neg:∀{d:Nat},(∀k,k<d->∃i,P[i]?=some (sq t.mask h (n+k))/\hashAt i≠h)->∀k,n<=k->k<n+d->∀i,P[i]?=some (sq t.mask h k)->hashAt i≠h:=fun{d} hl k hk1 hk2 i hi=>by
  obtain⟨i',e1,e2⟩:=hl (k - n) (by omega);rw[show n+(k - n)=k by omega]at e1;rw[uniq hi e1];exact e2
 unfold SetTable.probe turns;rcases gen (nF - n) (by omega)with hl | ⟨q,i,a,b,e1,e2,hl⟩
 ·refine .inl ⟨?_,fun k hk1 hk2=>neg hl k hk1 (by omega)⟩
  have:=z3r c hashAt h (nF - n) (10*(t.mask+15)) n (by omega) hl (by rw[show n+(nF - n)=nF by omega];exact h1);rw[show n+(nF - n)=nF by omega]at this;exact this
 ·refine .inr ⟨q,i,a,by omega,e1,e2,?_,fun k hk1 hk2=>neg hl k hk1 (by omega)⟩
  have:=z65 c hashAt h (i0:=i) (q - n) (10*(t.mask+15)) n (by omega) hl (by rw[show n+(q - n)=q by omega];exact e1) e2;rw[show n+(q - n)=q by omega]at this;exact this
noncomputable def insZ(Z:Zs)(z:Nat×(Int×Value)):Zs:=Z.take (below (zP Z).toArray z.1)++z::Z.drop (below (zP Z).toArray z.1)
theorem z8a(Z:Zs)(z:Nat×(Int×Value)):zP (insZ Z z)=(zP Z).take (below (zP Z).toArray z.1)++z.1::(zP Z).drop (below (zP Z).toArray z.1):=by
 unfold insZ zP;rw[List.map_append,List.map_cons,List.map_take,List.map_drop]
theorem zBa(Z:Zs)(z:Nat×(Int×Value)):zE (insZ Z z)=(zE Z).take (below (zP Z).toArray z.1)++z.2::(zE Z).drop (below (zP Z).toArray z.1):=by
 unfold insZ zE;rw[List.map_append,List.map_cons,List.map_take,List.map_drop]
theorem xk(Z:Zs)(z:Nat×(Int×Value)):(insZ Z z).Perm (z::Z):=by
 unfold insZ;refine List.perm_middle.trans ?_;rw[List.take_append_drop]
theorem Tb.ins{mask:Nat}{Z:Zs}(T:Tb mask Z){h:Int}{x:Value}{n:Nat}(h1:sq mask h n∉zP Z)(h2:∀k,k<n->sq mask h k∈zP Z)(hl:Z.length+1<=mask):Tb mask (insZ Z (sq mask h n,(h,x))):=by
 have pm:(zP (insZ Z (sq mask h n,(h,x)))).Perm (sq mask h n::zP Z):=(xk Z _).map _;refine⟨?_,fun j hj=>?_,?_,fun z hz=>?_⟩
 ·rw[z8a];have B:=z1B T.ris (sq mask h n);have r:=T.ris;generalize below (zP Z).toArray (sq mask h n)=p at B;rw[List.pairwise_append];refine⟨r.sublist (List.take_sublist _ _),List.pairwise_cons.mpr ⟨fun y hy=>?_,r.sublist (List.drop_sublist _ _)⟩,fun a ha b hb=>?_⟩
  ·obtain⟨q,hq⟩:=List.getElem?_of_mem hy;rw[List.getElem?_drop]at hq
   have:=B.hi (p+q) y (by omega) hq;have hne:y≠sq mask h n:=fun e=>h1 (e▸List.mem_of_getElem? hq);omega
  ·obtain⟨q,hq⟩:=List.getElem?_of_mem ha;have hqp:q<p:=by
    have:=(List.getElem?_eq_some_iff.mp hq).1;rw[List.length_take]at this;omega
   rw[List.getElem?_take_of_lt hqp]at hq;have ha':=B.lo q a hqp hq;rcases List.mem_cons.mp hb with rfl | hb
   ·exact ha'
   ·obtain⟨q',hq'⟩:=List.getElem?_of_mem hb;rw[List.getElem?_drop]at hq'
    have:=B.hi (p+q') b (by omega) hq';omega
 ·rcases List.mem_cons.mp (pm.subset hj)with rfl | hj
  ·exact z9G _ _ _
  ·exact T.bnd j hj
 ·have:=(xk Z (sq mask h n,(h,x))).length_eq;rw[this];simpa using hl
 ·have sub:∀y∈zP Z,y∈zP (insZ Z (sq mask h n,(h,x))):=fun y hy=>pm.symm.subset (List.mem_cons_of_mem _ hy);rcases List.mem_cons.mp ((xk Z _).subset hz)with rfl | hz
  ·exact⟨n,rfl,fun k hk=>sub _ (h2 k hk)⟩
  ·exact(T.rc z hz).mono sub
structure Ow(mask:Nat)(owner:Array (Option Nat))(js:List Nat):Prop where
 size:owner.size=mask+1
 nd:js.Nodup
 bnd:∀j∈js,j<=mask
 at_:∀j,j<=mask->owner[j]?=some (js.findIdx? (· == j))
theorem Ow.isn{mask:Nat}{owner:Array (Option Nat)}{js:List Nat}(O:Ow mask owner js){j:Nat}(hj:j<=mask):(owner.getD j (some 0)).isNone=true↔j∉js:=by
 rw[Array.getD_eq_getD_getElem?,O.at_ j hj,Option.getD_some,Option.isNone_iff_eq_none,List.findIdx?_eq_none_iff];constructor
 ·intro z hj'
  have:=z j hj';simp at this
 ·intro z x hx;simp only[beq_eq_false_iff_ne];exact fun e=>z (e▸hx)
theorem z5v{mask:Nat}{owner:Array (Option Nat)}{js:List Nat}(O:Ow mask owner js)(h:Int):∀(fuel k:Nat),(∀n,n<stL mask h k->sq mask h n∈js)->(∃k',k<=k'/\k'<k+fuel/\(rn mask h k').1∉js)->∃n,sq mask h n∉js/\(∀k,k<n->sq mask h k∈js)/\layClean.free mask owner fuel (rn mask h k).1 (rn mask h k).2=some (sq mask h n)
 | 0,k,_,⟨k',h1,h2,_⟩=>by omega
 | fuel+1,k,hb,⟨k',h1,h2,h3⟩=>by
  have hr:=z8U mask (rn mask h k).1;have hle:∀q,q<runEnd mask (rn mask h k).1+1 - (rn mask h k).1->sq mask h (stL mask h k+q)=(rn mask h k).1+q:=fun q hq=>by
   unfold sq;rw[z3O mask h k q (by omega)]
  have hmx:∀q,q<runEnd mask (rn mask h k).1+1 - (rn mask h k).1->(rn mask h k).1+q<=mask:=fun q hq=>by rw[<-hle q hq];exact z9G _ _ _
  unfold layClean.free;cases e:(List.range (runEnd mask (rn mask h k).1+1 - (rn mask h k).1)).find? fun q=>(owner.getD ((rn mask h k).1+q) (some 0)).isNone with
  | some q=>
   dsimp only;obtain⟨e1,as,bs,e2,e3⟩:=List.find?_eq_some_iff_append.mp e;have hq:q<runEnd mask (rn mask h k).1+1 - (rn mask h k).1:=List.mem_range.mp (List.mem_of_find?_eq_some e);have las:as.length=q:=by
    have:(List.range (runEnd mask (rn mask h k).1+1 - (rn mask h k).1))[as.length]?=some q:=by rw[e2];simp
    rw[List.getElem?_eq_some_iff]at this;obtain⟨_,z⟩:=this;simpa using z
   refine⟨stL mask h k+q,by rw[hle q hq];exact(O.isn (hmx q hq)).mp e1,fun n hn=>?_,by rw[hle q hq]⟩;rcases Nat.lt_or_ge n (stL mask h k)with c | c
   ·exact hb n c
   ·have hn':n=stL mask h k+(n - stL mask h k):=by omega
    have hlt:n - stL mask h k<q:=by omega
    rw[hn',hle _ (by omega)];have hin:n - stL mask h k∈as:=by
     have:(List.range (runEnd mask (rn mask h k).1+1 - (rn mask h k).1))[n - stL mask h k]?=some (n - stL mask h k):=by
      rw[List.getElem?_range (by omega)]
     rw[e2,List.getElem?_append_left (by omega)]at this;exact List.mem_of_getElem? this
    have:=e3 _ hin;refine Classical.byContradiction fun hno=>?_;rw[(O.isn (hmx _ (by omega))).mpr hno]at this;exact absurd this (by decide)
  | none=>
   dsimp only;rw[List.find?_eq_none]at e;have full:∀q,q<runEnd mask (rn mask h k).1+1 - (rn mask h k).1->(rn mask h k).1+q∈js:=fun q hq=>by
    refine Classical.byContradiction fun hno=>?_;exact e q (List.mem_range.mpr hq) ((O.isn (hmx q hq)).mpr hno)
   have:=z5v O h fuel (k+1) (fun n hn=>by
    rcases Nat.lt_or_ge n (stL mask h k)with c | c
    ·exact hb n c
    ·have hn:n<stL mask h k+(runEnd mask (rn mask h k).1 - (rn mask h k).1)+1:=hn;rw[show n=stL mask h k+(n - stL mask h k) by omega,hle _ (by omega)];exact full _ (by omega)) ⟨k',by
      rcases Nat.lt_or_ge k k' with c | c
      ·exact c
      ·have:k'=k:=by omega
       subst this;exact absurd (full 0 (by omega)) (by simpa using h3),by omega,h3⟩
   exact this
theorem z9r{mask:Nat}(hm:mk3 mask){owner:Array (Option Nat)}{js:List Nat}(O:Ow mask owner js)(hl:js.length<=mask)(h:Int):∃n,sq mask h n∉js/\(∀k,k<n->sq mask h k∈js)/\layClean.free mask owner (turns mask) (bits h % (mask+1)) (bits h)=some (sq mask h n):=by
 obtain⟨e,he,hn⟩:=hole hl;obtain⟨k,hk,ek⟩:=z6Y hm h he;exact z5v O h (turns mask) 0 (fun n hn=>by simp[stL]at hn) ⟨k,Nat.zero_le _,by unfold turns;omega,by rw[ek];exact hn⟩
theorem Ow.add{mask:Nat}{owner:Array (Option Nat)}{js:List Nat}(O:Ow mask owner js){j:Nat}(hj:j<=mask)(hn:j∉js):Ow mask (owner.setIfInBounds j (some js.length)) (js++[j]):=by
 refine⟨by rw[Array.size_setIfInBounds];exact O.size,?_,fun x hx=>?_,fun x hx=>?_⟩
 ·rw[List.nodup_append];exact⟨O.nd,by simp,fun a ha b hb e=>hn (by rw[<-List.mem_singleton.mp hb,<-e];exact ha)⟩
 ·rcases List.mem_append.mp hx with hx | hx
  ·exact O.bnd x hx
  ·rw[List.mem_singleton.mp hx];exact hj
 ·rw[Array.getElem?_setIfInBounds];by_cases e:j=x
  ·subst e;rw[if_pos rfl,if_pos (by rw[O.size];omega)];refine congrArg some ?_;rw[List.findIdx?_append,List.findIdx?_eq_none_iff.mpr fun x hx=>by simp only[beq_eq_false_iff_ne];exact fun e=>hn (e▸hx)];simp
  ·rw[if_neg e,O.at_ x hx];refine congrArg some ?_;rw[List.findIdx?_append]
   have:[j].findIdx? (· == x)=Option.none:=by
    rw[List.findIdx?_eq_none_iff];intro y hy;rw[List.mem_singleton.mp hy];simpa using e
   rw[this];cases js.findIdx? (· == x)<;>rfl
structure Laid(mask:Nat)(hs:List Int)(js:List Nat):Prop where
 len:js.length=hs.length
 rc:∀(i:Nat) (j:Nat) (h:Int),js[i]?=some j->hs[i]?=some h->Rc mask js h j
theorem z3d{mask:Nat}(hm:mk3 mask):∀(rest done:List Int) (owner:Array (Option Nat)) (js:List Nat),Ow mask owner js->Laid mask done js->done.length+rest.length<=mask->
  ∃owner' js',rest.foldl (fun(acc:Option (Array (Option Nat)×Nat)) h=>do
   let(owner,k)<-acc
   let j<-layClean.free mask owner (turns mask) (bits h % (mask+1)) (bits h)
   pure (owner.setIfInBounds j (some k),k+1)) (some (owner,done.length))=some (owner',(done++rest).length)/\Ow mask owner' js'/\Laid mask (done++rest) js'
 | [],done,owner,js,O,L,_=>⟨owner,js,by simp,O,by simpa using L⟩
 | h::rest,done,owner,js,O,L,hl=>by
  rw[List.length_cons]at hl;have ll:=L.len;obtain⟨n,h1,h2,h3⟩:=z9r hm O (by omega) h;have O2:=O.add (z9G mask h n) h1;have L2:Laid mask (done++[h]) (js++[sq mask h n]):=by
   refine⟨by simp[ll],fun i j g hi hg=>?_⟩;rcases Nat.lt_or_ge i js.length with c | c
   ·rw[List.getElem?_append_left c]at hi;rw[List.getElem?_append_left (by omega)]at hg;exact(L.rc i j g hi hg).mono fun x hx=>List.mem_append_left _ hx
   ·rw[List.getElem?_append_right c]at hi;rw[List.getElem?_append_right (by omega)]at hg;have hi0:i - js.length=0:=by
     have:=(List.getElem?_eq_some_iff.mp hi).1;simpa using this
    have hg0:i - done.length=0:=by omega
    rw[hi0]at hi;rw[hg0]at hg;cases hi;cases hg;exact⟨n,rfl,fun k hk=>List.mem_append_left _ (h2 k hk)⟩
  have:=z3d hm rest (done++[h]) _ _ O2 L2 (by simp;omega);rw[List.append_assoc]at this;rw[List.foldl_cons];simp only[Option.bind_eq_bind,Option.bind_some,h3,Option.pure_def];rw[show js.length=done.length from ll]at this;rw[show(done++[h]).length=done.length+1 by simp]at this;exact this
theorem Ow.new(mask:Nat):Ow mask (Array.replicate (mask+1) none) []:=by
 refine⟨by simp,List.nodup_nil,fun j hj=>(nomatch hj),fun j hj=>?_⟩;rw[Array.getElem?_replicate,if_pos (by omega)];rfl
theorem z2y{mask:Nat}(hm:mk3 mask)(hs:Array Int)(hl:hs.size<=mask):∃owner js,layClean mask hs=some owner/\Ow mask owner js/\Laid mask hs.toList js:=by
 obtain⟨owner,js,e,O,L⟩:=z3d hm hs.toList [] _ [] (Ow.new mask) ⟨rfl,fun i j h hi=>by simp at hi⟩ (by simpa using hl);refine⟨owner,js,?_,O,by simpa using L⟩;unfold layClean;rw[<-Array.foldl_toList];rw[show(0:Nat)=([]:List Int).length from rfl,e];rfl
theorem z43(E:List (Int×Value)):(List.range E.length).filterMap (E[·]?)=E:=by
 have:∀(n:Nat),n<=E.length->(List.range n).filterMap (E[·]?)=E.take n:=by
  intro n
  induction n with
  | zero=>intro _;simp
  | succ n ih=>
   intro h;rw[List.range_succ,List.filterMap_append,ih (by omega),List.take_add_one,List.getElem?_eq_getElem (by omega)];simp[List.getElem?_eq_getElem (show n<E.length by omega)]
 rw[this _ (Nat.le_refl _),List.take_length]
theorem zAC{mask:Nat}(hm:mk3 mask)(finger moves:Nat)(led plain:Bool){E:List (Int×Value)}(hl:E.length<=mask):
  ∃t' order Z',laid mask finger moves led plain (E.toArray.map (·.1))=some (t',order)/\t'.mask=mask/\t'.place=(zP Z').toArray/\t'.dummies=#[]/\t'.led=led/\t'.plain=plain/\t'.moves=moves/\order.filterMap (E.toArray[·]?)=(zE Z').toArray/\Tb mask Z'/\(zE Z').Perm E:=by
 obtain⟨owner,js,e0,O,L⟩:=z2y hm (E.toArray.map (·.1)) (by simpa using hl);have len:js.length=E.length:=by have:=L.len;simpa using this
 generalize hlive:((List.range (mask+1)).filterMap fun j=>(owner.getD j none).map fun x=>(j,x))=live;have mem:∀q:Nat×Nat,q∈live↔js[q.2]?=some q.1:=fun q=>by
  rw[<-hlive,List.mem_filterMap];constructor
  ·rintro⟨j,hj,e⟩;have hj:=List.mem_range.mp hj;obtain⟨i,ei,rfl⟩:=Option.map_eq_some_iff.mp e;rw[Array.getD_eq_getD_getElem?,O.at_ j (by omega),Option.getD_some]at ei;obtain⟨hi,h1,_⟩:=List.findIdx?_eq_some_iff_getElem.mp ei;show js[i]?=some j;rw[List.getElem?_eq_getElem hi];simpa using h1
  ·intro h;obtain⟨hi,ej⟩:=List.getElem?_eq_some_iff.mp h;have hj:=O.bnd q.1 (List.mem_of_getElem? h);refine⟨q.1,List.mem_range.mpr (by omega),?_⟩;rw[Array.getD_eq_getD_getElem?,O.at_ q.1 hj,Option.getD_some]
   have:js.findIdx? (· == q.1)=some q.2:=by
    rw[List.findIdx?_eq_some_iff_getElem];refine⟨hi,by simpa using ej,fun k hk=>?_⟩;simp only[Bool.not_eq_true,beq_eq_false_iff_ne];intro z
    have:=(List.getElem_inj (h₀:=by omega) (h₁:=hi) O.nd).mp (z.trans ej.symm);omega
   rw[this];rfl
 have ris:live.Pairwise fun a b=>a.1<b.1:=by
  rw[<-hlive];refine List.Pairwise.filterMap _ (fun a a' h b hb b' hb'=>?_) (List.pairwise_lt_range (n:=mask+1));obtain⟨_,_,rfl⟩:=Option.map_eq_some_iff.mp hb;obtain⟨_,_,rfl⟩:=Option.map_eq_some_iff.mp hb';exact h
 have lt:∀q∈live,q.2<E.length:=fun q hq=>by
  have:=(List.getElem?_eq_some_iff.mp ((mem q).mp hq)).1;omega
 have ndo:(live.map (·.2)).Nodup:=by
  refine List.pairwise_map.mpr (ris.imp_of_mem fun{a b} ha hb h e=>?_);have h1:=(mem a).mp ha;have h2:=(mem b).mp hb;rw[<-e,h1]at h2
  have:=Option.some.inj h2;omega
 have po:(live.map (·.2)).Perm (List.range E.length):=by
  refine(List.perm_ext_iff_of_nodup ndo List.nodup_range).mpr fun i=>?_;rw[List.mem_map,List.mem_range];constructor
  ·rintro⟨q,hq,rfl⟩;exact lt q hq
  ·intro hi;exact⟨(js[i]'(by omega),i),(mem _).mpr (List.getElem?_eq_getElem (by omega)),rfl⟩
 let Z':Zs:=live.map fun q=>(q.1,(E[q.2]?).getD (0,.none))
 have eP:zP Z'=live.map (·.1):=by simp[zP,Z']
 have eE:zE Z'=(live.map (·.2)).filterMap (E[·]?):=by
  have:∀l:List (Nat×Nat),(∀q∈l,q.2<E.length)->(l.map fun q=>(E[q.2]?).getD ((0:Int),Value.none))=(l.map (·.2)).filterMap (E[·]?):=by
   intro l
   induction l with
   | nil=>intro _;rfl
   | cons q l ih=>
    intro h;have hq:=h q List.mem_cons_self;rw[List.map_cons,List.map_cons,List.filterMap_cons,List.getElem?_eq_getElem hq,ih fun q hq=>h q (List.mem_cons_of_mem _ hq)];rfl
  show(live.map fun q=>(q.1,(E[q.2]?).getD ((0:Int),Value.none))).map (·.2)=_;rw[List.map_map];exact this live lt
 have inP:∀x∈js,x∈zP Z':=fun x hx=>by
  obtain⟨i,hi⟩:=List.getElem?_of_mem hx;rw[eP];exact List.mem_map.mpr ⟨(x,i),(mem (x,i)).mpr hi,rfl⟩
 have pE:(zE Z').Perm E:=by
  rw[eE]
  have:=po.filterMap (E[·]?);rw[z43]at this;exact this
 refine⟨{ mask,place:=(live.map (·.1)).toArray,dummies:=#[],finger,led,moves,plain },(live.map (·.2)).toArray,Z',?_,rfl,by rw[eP],rfl,rfl,rfl,rfl,?_,⟨?_,fun j hj=>?_,?_,fun z hz=>?_⟩,pE⟩
 ·unfold laid;rw[e0];simp only[Option.bind_eq_bind,Option.bind_some,Option.pure_def];rw[hlive]
 ·rw[eE];simp
 ·rw[eP];exact List.pairwise_map.mpr ris
 ·rw[eP]at hj;obtain⟨q,hq,rfl⟩:=List.mem_map.mp hj;exact O.bnd _ (List.mem_of_getElem? ((mem q).mp hq))
 ·have:=pE.length_eq;have h2:(zE Z').length=Z'.length:=by simp[zE]
  omega
 ·obtain⟨q,hq,rfl⟩:=List.mem_map.mp hz;have h1:=(mem q).mp hq;have hi:=lt q hq;have r:=(L.rc q.2 q.1 (E[q.2]).1 h1 (by simp[List.getElem?_eq_getElem hi])).mono inP;show Rc mask (zP Z') ((E[q.2]?).getD (0,.none)).1 q.1;rw[List.getElem?_eq_getElem hi];exact r
section
variable{P:Program}{w:World}{K:Type}[DecidableEq K]{kk:KeyKind P w K}{A:Around}{E:Value->Shared->Prop}{s:Shared}
noncomputable def hAt(es:Array (Int×Value))(i:Nat):Int:=(es[i]?.map (·.1)).getD 0
noncomputable def ent(kk:KeyKind P w K)(x:List K×Addr):Int×Value:=((tupleKind kk).hash x.1,.ref x.2)
theorem z5H{a:Addr}{k:List K}{Q:Bool->Shared->Prop}(hk:(tupleKind kk).is s.heap k a)(h:Q false s):wpAny (model P w) A (ofAClassStatement 8 (.ref a)) Q E s:=by
 have hT:s.TypeIs (.ref a) "tuple":=IsTupleKey.typeIs hk;obtain⟨o,items,n,ho,_,hd,hi⟩:=(show IsTupleKey kk s.heap k a from hk);unfold ofAClassStatement;refine wpAny_bind (wpAny_typeOf hT ?_);dsimp only;rw[if_pos (by decide)];refine wpAny_bind (wpAny_pure ?_);rw[if_neg (by decide)];refine wpAny_bind (wpAny_seqItems ho hd ?_);dsimp only;refine wpAny_bind ?_;show wpAny _ _ (forIn items _ _) _ _ s;rw[<-Array.forIn_toList];refine wpAny_forIn_list _ (fun rest r s'=>r.1=none/\s'=s/\∀v∈rest,carriedByValue v=true) _ ?_ ?_ _ _ ⟨rfl,rfl,hi.byValue⟩
 ·rintro v rest r s' ⟨hr,rfl,hall⟩;have hv:=hall v List.mem_cons_self;have e:ofAClassStatement 7 v=pure false:=by cases v<;>first | rfl | cases hv
  rw[e];refine wpAny_bind (wpAny_pure ?_);rw[if_neg Bool.false_ne_true];exact wpAny_pure ⟨rfl,rfl,fun u hu'=>hall u (List.mem_cons_of_mem _ hu')⟩
 ·rintro⟨r1,r2⟩ s' ⟨hr,rfl,_⟩;simp only at hr;subst hr;exact wpAny_pure h
theorem zBf{b:Addr}{k:List K}{Q:Bool->Shared->Prop}(hk:(tupleKind kk).is s.heap k b):∀{ys:List Value},(∀y∈ys,∃(c:Addr) (k':List K),y=.ref c/\(tupleKind kk).is s.heap k' c)->Q false s->wpAny (model P w) A (searchCouldBeSeen (.ref b) ys) Q E s:=by
 intro ys hy h;unfold searchCouldBeSeen;refine wpAny_bind ?_;refine wpAny_forIn_list _ (fun rest r s'=>r.1=none/\s'=s/\∀y∈rest,∃(c:Addr) (k':List K),y=.ref c/\(tupleKind kk).is s.heap k' c) _ ?_ ?_ _ _ ⟨rfl,rfl,hy⟩
 ·rintro y rest r s' ⟨hr,rfl,hall⟩;obtain⟨c,k',rfl,hc⟩:=hall y List.mem_cons_self;have next:wpAny (model P w) A (pure (ForInStep.yield (⟨none,PUnit.unit⟩:MProd (Option Bool) PUnit))) (fun r s'_1=>match r with
   | ForInStep.yield b'=>b'.1=none/\s'_1=s'/\∀y∈rest,∃(c:Addr) (k':List K),y=.ref c/\(tupleKind kk).is s'.heap k' c
   | ForInStep.done b'=>wpAny (model P w) A (match b'.1 with | none=>pure false | some a=>pure a) Q E s'_1) E s':=wpAny_pure ⟨rfl,rfl,fun y hy=>hall y (List.mem_cons_of_mem _ hy)⟩
  dsimp only;split
  ·exact wpAny_pure ⟨rfl,rfl,fun y hy=>hall y (List.mem_cons_of_mem _ hy)⟩
  ·refine wpAny_bind ((tupleKind kk).quiet hk ?_);rw[if_neg (by decide)];refine wpAny_bind ((tupleKind kk).quiet hc ?_);rw[if_neg (by decide)];refine wpAny_bind (z5H hk ?_);rw[if_neg Bool.false_ne_true];refine wpAny_bind (z5H hc ?_);rw[if_neg Bool.false_ne_true];exact wpAny_pure ⟨rfl,rfl,fun y hy=>hall y (List.mem_cons_of_mem _ hy)⟩
 ·rintro⟨r1,r2⟩ s' ⟨hr,rfl,_⟩;simp only at hr;subst hr;exact wpAny_pure h
theorem z8F{a:Addr}{Q:Bool->Shared->Prop}(h:Q true s):wpAny (model P w) A (isSame (.ref a) (.ref a)) Q E s:=by
 unfold isSame;simp only[beq_self_eq_true,if_true];exact wpAny_pure h
theorem z84{a b:Addr}{o:Obj}{ep:Nat}{t:SetTable}{Z:Zs}{X:List (List K×Addr)}{k:List K}{Q:SetFound->Shared->Prop}(hu:(tupleKind kk).room A)(ho:s.heap.get? a=some o)(hd:o.data=.set (zE Z).toArray ep t)(hfit:t.fits (zE Z).toArray.size=true)(hodd:t.gaveWay=false)(c:Cl t (zP Z))(hX:zE Z=X.map (ent kk))(his:∀x∈X,(tupleKind kk).is s.heap x.1 x.2)(hkey:(tupleKind kk).is s.heap k b)
  {nF:Nat} (hF:nF<10*(t.mask+15)) (h1:sq t.mask ((tupleKind kk).hash k) nF∉zP Z) (h2:∀q,q<nF->sq t.mask ((tupleKind kk).hash k) q∈zP Z)
  (hin:(∃x∈X,x.1=k)->Q (.there none) s) (hout:(∀x∈X,x.1≠k)->Q (.free (sq t.mask ((tupleKind kk).hash k) nF) false) s) :
  ∀(d fuel n:Nat) (stand:Option Probe),n+d=nF->d<fuel->stand.getD (t.probeStart ((tupleKind kk).hash k))=stP t.mask ((tupleKind kk).hash k) n->(∀(i:Nat) (x:List K×Addr),X[i]?=some x->x.1=k->∃q,n<=q/\q<nF/\(zP Z)[i]?=some (sq t.mask ((tupleKind kk).hash k) q))->
   wpAny (model P w) A (setSearchFrom a (.ref b) ((tupleKind kk).hash k) true fuel stand) Q E s:=by
 have hlen:(zP Z).length=X.length:=by
  have:=congrArg List.length hX;simpa[zE,zP]using this
 have hat:∀{i:Nat} {x:List K×Addr},X[i]?=some x->(zE Z).toArray[i]?=some (ent kk x):=fun{i x} e=>by
  rw[List.getElem?_toArray,hX,List.getElem?_map,e];rfl
 intro d
 induction d using Nat.strongRecOn with
 | _ d ih=>
  intro fuel n stand e1 e2 e3 e4;obtain⟨fuel,rfl⟩:∃f,fuel=f+1:=⟨fuel - 1,by omega⟩;have pn:∀(f:Nat->Int) (met:Option Met),t.probe f ((tupleKind kk).hash k) (stP t.mask ((tupleKind kk).hash k) n)=met->(∀i,f i=hAt (zE Z).toArray i)->(met=some (.empty (sq t.mask ((tupleKind kk).hash k) nF) none)/\∀q,n<=q->q<nF->∀i,(zP Z)[i]?=some (sq t.mask ((tupleKind kk).hash k) q)->hAt (zE Z).toArray i≠(tupleKind kk).hash k)\/
    ∃q i,n<=q/\q<nF/\(zP Z)[i]?=some (sq t.mask ((tupleKind kk).hash k) q)/\met=some (.candidate (sq t.mask ((tupleKind kk).hash k) q) i (stP t.mask ((tupleKind kk).hash k) (q+1)))/\∀q',n<=q'->q'<q->∀i,(zP Z)[i]?=some (sq t.mask ((tupleKind kk).hash k) q')->hAt (zE Z).toArray i≠(tupleKind kk).hash k:=fun f met e hf=>by
   have ef:f=hAt (zE Z).toArray:=funext hf;subst ef;rcases z4Z c (hAt (zE Z).toArray) ((tupleKind kk).hash k) hF h1 h2 (n:=n) (by omega)with ⟨a1,a2⟩ | ⟨q,i,a1,a2,a3,a4,a5,a6⟩
   ·exact .inl ⟨by rw[<-e,a1],a2⟩
   ·exact .inr ⟨q,i,a1,a2,a3,by rw[<-e,a5],a6⟩
  have hk:∀{i:Nat} {x:List K×Addr},X[i]?=some x->x.1=k->hAt (zE Z).toArray i=(tupleKind kk).hash k:=fun{i x} ex hx=>by
   unfold hAt;rw[hat ex,<-hx];rfl
  unfold setSearchFrom;refine wpAny_bind (wpAny_setState_of ho hd hfit ?_);dsimp only;rw[hodd,e3,if_neg Bool.false_ne_true];split
  next met heq=>
   rcases pn _ _ heq (fun i=>rfl)with ⟨em,hno⟩ | ⟨q,i,hq1,hq2,hi,em,hno⟩
   ·cases em;dsimp only;refine wpAny_pure (hout fun x hx ek=>?_);obtain⟨i,hi⟩:=List.getElem?_of_mem hx;obtain⟨q,b1,b2,b3⟩:=e4 i x hi ek;exact hno q b1 b2 i b3 (hk hi ek)
   ·cases em;dsimp only;have hiX:i<X.length:=by rw[<-hlen];exact(List.getElem?_eq_some_iff.mp hi).1
    have ex:X[i]?=some X[i]:=List.getElem?_eq_getElem hiX;generalize X[i]=x at ex;have hxm:x∈X:=List.mem_of_getElem? ex;have side:∀y∈(((zE Z).toArray.filter (·.1 == (tupleKind kk).hash k)).toList.map (·.2)),∃(c:Addr) (k':List K),y=.ref c/\(tupleKind kk).is s.heap k' c:=fun y hy=>by
     obtain⟨e,he,rfl⟩:=List.mem_map.mp hy;have he:e∈zE Z:=by
      have:=Array.mem_toList_iff.mp he;simpa using (Array.mem_filter.mp this).1
     rw[hX]at he;obtain⟨x,hx,rfl⟩:=List.mem_map.mp he;exact⟨x.2,x.1,rfl,his x hx⟩
    split
    case' isTrue=>
     refine wpAny_bind (zBf hkey side ?_);rw[if_neg Bool.false_ne_true]
    all_goals
     rw[hat ex];dsimp only[ent];refine wpAny_bind (wpAny_holding ((tupleKind kk).eqBool hu (his x hxm) hkey ?_));refine wpAny_bind (wpAny_setState_of ho hd hfit ?_);dsimp only;by_cases hxk:x.1=k
     ·rw[decide_eq_true hxk,if_pos (by decide)];exact wpAny_pure (hin ⟨x,hxm,hxk⟩)
     ·rw[decide_eq_false hxk,if_neg (by decide)];have sm:t.sameMemory t.moves t.mask=some true:=by unfold SetTable.sameMemory;simp
      rw[sm];dsimp only;rw[if_pos rfl,c.live hi];dsimp only;rw[hat ex];dsimp only[ent];refine wpAny_bind (z8F ?_);refine wpAny_bind (wpAny_pure ?_);rw[if_pos rfl];dsimp only;rw[if_neg Bool.false_ne_true];refine ih (nF - (q+1)) (by omega) fuel (q+1) _ (by omega) (by omega) rfl fun i' x' ex' hx'=>?_;obtain⟨q',b1,b2,b3⟩:=e4 i' x' ex' hx';refine⟨q',?_,b2,b3⟩;rcases Nat.lt_trichotomy q' q with hlt | heq' | hgt
      ·exact absurd (hk ex' hx') (hno q' b1 hlt i' b3)
      ·subst heq'
       have:=wQ c.ris hi;rw[wQ c.ris b3]at this;subst this;rw[ex]at ex';cases ex';exact absurd hx' hxk
      ·exact hgt
  next heq=>
   obtain⟨f,hf,hfe⟩:∃f:Nat->Int,(∀i,f i=hAt (zE Z).toArray i)/\∀met,t.probe f ((tupleKind kk).hash k) (stP t.mask ((tupleKind kk).hash k) n)=some met->False:=⟨_,fun i=>rfl,heq⟩;rcases pn f _ rfl hf with ⟨em,_⟩ | ⟨q,i,_,_,_,em,_⟩
   ·exact(hfe _ em).elim
   ·exact(hfe _ em).elim
end
section
variable{P:Program}{w:World}{A:Around}{E:Value->Shared->Prop}{s:Shared}
noncomputable abbrev tk(P:Program)(w:World):HeapKind P w (List Key):=tupleKind (zT P w)
def intK(k:List Key):Prop:=∀q∈k,∃i:Int,q=.inl i
theorem zCb{b:Addr}{k:List Key}{Q:Bool->Shared->Prop}(hk:(tk P w).is s.heap k b)(hi:intK k)(h:Q true s):wpAny (model P w) A (hashByValue 8 (.ref b)) Q E s:=by
 have hT:s.TypeIs (.ref b) "tuple":=IsTupleKey.typeIs hk;obtain⟨o,items,n,ho,_,hd,hit⟩:=(show IsTupleKey (zT P w) s.heap k b from hk);have hints:∀v∈items.toList,∃i t,v=Value.int i t:=by
  have gen:∀{k:List Key} {vs:List Value},ItemsAre (zT P w) k vs->intK k->∀v∈vs,∃i t,v=Value.int i t:=by
   intro k vs r
   induction r with
   | nil=>intro _ v hv;cases hv
   | @cons q v ks vs hq t ih=>
    intro hk u hu;rcases List.mem_cons.mp hu with rfl | hu
    ·obtain⟨i,rfl⟩:=hk q List.mem_cons_self;rcases zp (show z1t (.inl i) u=true from hq)with ⟨j,t,_,e⟩ | ⟨x,t,e,_⟩
     ·exact⟨j,t,e⟩
     ·cases e
    ·exact ih (fun q hq=>hk q (List.mem_cons_of_mem _ hq)) u hu
  exact gen hit hi
 unfold hashByValue;refine wpAny_bind (wpAny_specialOf hT F.slot_tuple_hash.lookup ?_);dsimp only;refine wpAny_bind (wpAny_seqItems ho hd ?_);refine wpAny_bind ?_;show wpAny _ _ (forIn items _ _) _ _ s;rw[<-Array.forIn_toList];refine wpAny_forIn_list _ (fun rest r s'=>r.1=none/\s'=s/\∀v∈rest,∃i t,v=Value.int i t) _ ?_ ?_ _ _ ⟨rfl,rfl,hints⟩
 ·rintro v rest r s' ⟨hr,rfl,hall⟩;obtain⟨i,t,rfl⟩:=hall v List.mem_cons_self;have e:hashByValue 7 (Value.int i t)=pure true:=rfl;rw[e];refine wpAny_bind (wpAny_pure ?_);rw[if_neg (by decide)];exact wpAny_pure ⟨rfl,rfl,fun u hu'=>hall u (List.mem_cons_of_mem _ hu')⟩
 ·rintro⟨r1,r2⟩ s' ⟨hr,rfl,_⟩;simp only at hr;subst hr;exact wpAny_pure h
def siz(mask n:Nat):Prop:=(mask=7/\n<=4)\/(mask=31/\n<=18)\/(mask=127/\n<=76)
theorem siz.m3{mask n:Nat}(h:siz mask n):mk3 mask/\n+1<=mask:=by
 unfold siz at h;unfold mk3;omega
structure SetZ(P:Program)(w:World)(h:Heap)(o:Obj)(ep:Nat)(t:SetTable)(Z:Zs)(led:Bool)(X:List (List Key×Addr)):Prop where
 ex:o.ExactSet
 data:o.data=.set (zE Z).toArray ep t
 cl:Cl t (zP Z)
 led:t.led=led
 plain:t.plain=true
 tb:Tb t.mask Z
 ent:zE Z=X.map (ent (zT P w))
 nd:(X.map (·.1)).Nodup
 is:∀x∈X,(tk P w).is h x.1 x.2/\intK x.1
def SetT(P:Program)(w:World)(h:Heap)(a:Addr)(led:Bool)(X:List (List Key×Addr)):Prop:=∃o ep t Z,h.get? a=some o/\SetZ P w h o ep t Z led X/\siz t.mask Z.length
theorem SetZ.len{h:Heap}{o:Obj}{ep:Nat}{t:SetTable}{Z:Zs}{led:Bool}{X:List (List Key×Addr)}(S:SetZ P w h o ep t Z led X):Z.length=X.length:=by
 have:=congrArg List.length S.ent;simpa[zE]using this
theorem SetZ.fits{h:Heap}{o:Obj}{ep:Nat}{t:SetTable}{Z:Zs}{led:Bool}{X:List (List Key×Addr)}(S:SetZ P w h o ep t Z led X):t.fits (zE Z).toArray.size=true:=by
 have:=S.tb.few;unfold SetTable.fits SetTable.fill;rw[S.cl.pl,S.cl.du];simp[zP,zE];exact this
theorem zCR{t:SetTable}(h:mk3 t.mask):t.gaveWay=false:=by
 unfold SetTable.gaveWay;rcases h with h | h | h<;>rw[h]<;>decide
theorem uW{h:Heap}{a:Addr}{o:Obj}{es:Array (Int×Value)}{ep:Nat}{t:SetTable}(es':Array (Int×Value))(t':SetTable)(ho:h.get? a=some o)(hd:o.data=.set es ep t):
  (h.update a (Obj.putSet es' t')).get? a=some { o with data:=.set es' (ep+1) t' }:=by
 have e:Obj.putSet es' t' o={ o with data:=.set es' (ep+1) t' }:=by
  obtain⟨c,d,dt,sl⟩:=o;simp only at hd;subst hd;rfl
 have:=Heap.get?_update_self (Obj.putSet es' t') ho (by rw[e];rfl);rw[e]at this;exact this
theorem z0s{h h':Heap}{a b:Addr}{k:List Key}{o:Obj}{es:Array (Int×Value)}{ep:Nat}{t:SetTable}(hk:(tk P w).is h k b)(ho:h.get? a=some o)(hd:o.data=.set es ep t)(hs:Heap.SameBut a h h'):(tk P w).is h' k b:=by
 obtain⟨o',items,n,ho',hc,hd',hi⟩:=(show IsTupleKey (zT P w) h k b from hk);have hne:b≠a:=by
  rintro rfl;rw[ho]at ho';cases ho';rw[hd]at hd';cases hd'
 exact⟨o',items,n,(hs.2 b hne).trans ho',hc,hd',hi⟩
theorem zCe{t:SetTable}{Z:Zs}(c:Cl t (zP Z)){z:Nat×(Int×Value)}(hz:z.1∉zP Z)(hr:(zP (insZ Z z)).Pairwise (·<·)):(t.put z.1).2=below (zP Z).toArray z.1/\Cl (t.put z.1).1 (zP (insZ Z z))/\(t.put z.1).1.mask=t.mask/\(t.put z.1).1.led=t.led/\(t.put z.1).1.plain=t.plain:=by
 unfold SetTable.put;refine⟨by rw[c.pl],⟨?_,?_,hr⟩,rfl,rfl,rfl⟩
 ·show insertAt t.place (below t.place z.1) z.1=_;rw[c.pl,z8a];apply Array.toList_inj.mp;rw[SetTable.toList_insertAt]
 ·show(if has t.dummies z.1=true then _ else t.dummies)=_;rw[c.du,if_neg (by unfold has;simp)]
theorem zBA(Z:Zs)(z:Nat×(Int×Value)):insertAt (zE Z).toArray (below (zP Z).toArray z.1) z.2=(zE (insZ Z z)).toArray:=by
 rw[zBa];apply Array.toList_inj.mp;rw[SetTable.toList_insertAt]
theorem z15{α β:Type}(f:α->β){l m:List β}(h:l.Perm m):∀{X:List α},m=X.map f->∃X':List α,l=X'.map f/\X'.Perm X:=by
 induction h with
 | nil=>intro X e;cases X with
  | nil=>exact⟨[],rfl,.nil⟩
  | cons _ _=>cases e
 | cons a _ ih=>
  intro X e;cases X with
  | nil=>cases e
  | cons x X=>
   rw[List.map_cons]at e;obtain⟨rfl,e2⟩:=List.cons.inj e;obtain⟨X',h1,h2⟩:=ih e2;exact⟨x::X',by rw[List.map_cons,h1],h2.cons x⟩
 | swap a b l=>
  intro X e
  match X,e with
  | x::y::X,e=>
   simp only[List.map_cons,List.cons.injEq]at e;obtain⟨rfl,rfl,rfl⟩:=e;exact⟨y::x::X,rfl,List.Perm.swap x y X⟩
 | trans _ _ ih1 ih2=>
  intro X e;obtain⟨X1,h1,h2⟩:=ih2 e;obtain⟨X2,h3,h4⟩:=ih1 h1;exact⟨X2,h3,h4.trans h2⟩
theorem z9P{a:Addr}{o:Obj}{ep wanted:Nat}{t:SetTable}{Z:Zs}{led:Bool}{X:List (List Key×Addr)}{Q:Unit->Shared->Prop}(ho:s.heap.get? a=some o)(S:SetZ P w s.heap o ep t Z led X)(hm:siz (sizeAbove wanted - 1) X.length)(hb:sizeAbove wanted<=128)
  (hQ:∀h' X',Heap.SameBut a s.heap h'->SetT P w h' a led X'->X'.Perm X->Q () { s with heap:=h' }):wpAny (model P w) A (setRelay a wanted) Q E s:=by
 obtain⟨m3,m1⟩:=hm.m3;have hl:=S.len;obtain⟨t',order,Z',e1,e2,e3,e4,e5,e6,e7,e8,e9,e10⟩:=zAC m3 t.finger (t.movedTo (sizeAbove wanted - 1)) t.led t.plain (E:=zE Z) (by simp[zE];omega);unfold setRelay;refine wpAny_bind (wpAny_setState_of ho S.data S.fits ?_);dsimp only;have q128:(128:Nat)<=sizeLine:=by rw[sizeLine_eq];decide
 rw[if_neg (show ¬sizeAbove wanted>sizeLine by omega)];have e0:t.relaid ((zE Z).toArray.map (·.1)) wanted=some (t',order):=e1;rw[e0];have hs:((zE Z').toArray.size != (zE Z).toArray.size)=false:=by
  have:=e10.length_eq;simp[this]
 refine wpAny_bind (wpAny_of_eq (a:=((zE Z').toArray,t')) ?_ ?_)
 ·rw[<-e8]at hs |-;show(ite (_=true) _ _:Sem (Array (Int×Value)×SetTable))=_;rw[if_neg (by rw[hs];exact Bool.false_ne_true)]
 dsimp only;have sb:Heap.SameBut a s.heap (s.heap.update a (Obj.putSet (zE Z').toArray t')):=Heap.SameBut.update ..;obtain⟨X',hX1,hX2⟩:=z15 (ent (zT P w)) e10 S.ent;refine wpAny_storeSet_of ho S.data (hQ _ X' sb ⟨_,ep+1,t',Z',uW _ _ ho S.data,⟨S.ex,rfl,⟨e3,e4,e9.ris⟩,by rw[e5,S.led],by rw[e6,S.plain],by rw[e2];exact e9,hX1,?_,fun x hx=>?_⟩,?_⟩ hX2) ?_
 ·exact((hX2.map (·.1)).nodup_iff).mpr S.nd
 ·obtain⟨h1,h2⟩:=S.is x (hX2.subset hx);exact⟨z0s h1 ho S.data sb,h2⟩
 ·have:=congrArg List.length hX1;have h3:Z'.length=X'.length:=by simpa[zE]using this
  rw[e2,h3,hX2.length_eq];exact hm
 ·have:=e10.length_eq;rw[sizeLine_eq];simp[zE]at this |-;unfold siz at hm;omega
end
section
variable{P:Program}{w:World}{A:Around}{E:Value->Shared->Prop}{s:Shared}
def zC4(X X':List (List Key×Addr))(k:List Key)(b:Addr):Prop:=((∃x∈X,x.1=k)/\X'=X)\/((∀x∈X,x.1≠k)/\X'.Perm ((k,b)::X))
theorem zCZ{a b:Addr}{led:Bool}{X:List (List Key×Addr)}{k:List Key}{Q:Bool->Shared->Prop}(hu:(tk P w).room A)(hk:(tk P w).is s.heap k b)(hi:intK k)(hS:SetT P w s.heap a led X)(hl:X.length<76)
  (h:∀h' X' r,Heap.SameBut a s.heap h'->SetT P w h' a led X'->zC4 X X' k b->Q r { s with heap:=h' }):wpAny (model P w) A (setAddHashed a (.ref b) ((tk P w).hash k)) Q E s:=by
 obtain⟨o,ep,t,Z,ho,S,hz⟩:=hS;obtain⟨m3,m1⟩:=hz.m3;have hlen:=S.len;obtain⟨nF,hF,h1,h2⟩:=z4d (mask:=t.mask) m3 (P:=zP Z) (by simp[zP];omega) ((tk P w).hash k);unfold setAddHashed setAddHashedIn;refine wpAny_holding (wpAny_bind (wpAny_setState_of ho S.data S.fits ?_));dsimp only;rw[if_neg (by unfold byScan Value.scannable;simp)];unfold setSearch;refine wpAny_bind (z84 (kk:=zT P w) hu ho S.data S.fits (zCR m3) S.cl S.ent (fun x hx=>(S.is x hx).1) hk hF h1 h2 (fun hin=>?_) (fun hout=>?_) nF 100000 0 none (by omega) (by rcases m3 with e | e | e<;>rw[e]at hF<;>omega) (z76 t _) fun i x ex hx=>?_)
 ·refine wpAny_pure ?_;have e:s={ s with heap:=s.heap }:=by cases s;rfl
  have:=h s.heap X false (Heap.SameBut.refl a s.heap) ⟨o,ep,t,Z,ho,S,hz⟩ (.inl ⟨hin,rfl⟩);rw[e];exact this
 ·dsimp only;refine wpAny_bind (wpAny_setState_of ho S.data S.fits ?_);dsimp only;have T1:=S.tb.ins (x:=Value.ref b) h1 h2 (by omega);generalize hzz:(sq t.mask ((tk P w).hash k) nF,((tk P w).hash k,Value.ref b))=z at T1;have z1:z.1=sq t.mask ((tk P w).hash k) nF:=by rw[<-hzz]
  have z2:z.2=((tk P w).hash k,Value.ref b):=by rw[<-hzz]
  obtain⟨p1,p2,p3,p4,p5⟩:=zCe S.cl (z:=z) (by rw[z1];exact h1) T1.ris;rw[<-z1,<-z2];generalize hput:t.put z.1=tp at p1 p2 p3 p4 p5;obtain⟨t1,pp⟩:=tp;dsimp only at p1 p2 p3 p4 p5 |-;rw[if_pos (by rw[p5,S.plain])];refine wpAny_bind (zCb hk hi ?_);rw[if_pos rfl,p1,zBA];have zl:(insZ Z z).length=Z.length+1:=(xk Z z).length_eq;have sb:Heap.SameBut a s.heap (s.heap.update a (Obj.putSet (zE (insZ Z z)).toArray t1)):=Heap.SameBut.update ..;have ho1:=uW (zE (insZ Z z)).toArray t1 ho S.data;have pe:(zE (insZ Z z)).Perm (((k,b)::X).map (ent (zT P w))):=by
   have:(zE (insZ Z z)).Perm (z.2::zE Z):=(xk Z z).map _;rw[z2,S.ent]at this;exact this
  obtain⟨X1,hX1,hX2⟩:=z15 (ent (zT P w)) pe rfl;have S1:SetZ P w (s.heap.update a (Obj.putSet (zE (insZ Z z)).toArray t1)) { o with data:=.set (zE (insZ Z z)).toArray (ep+1) t1 } (ep+1) t1 (insZ Z z) led X1:=by
   refine⟨S.ex,rfl,p2,by rw[p4,S.led],by rw[p5,S.plain],by rw[p3];exact T1,hX1,?_,fun x hx=>?_⟩
   ·refine((hX2.map (·.1)).nodup_iff).mpr (List.nodup_cons.mpr ⟨fun hm=>?_,S.nd⟩);obtain⟨x,hx,e⟩:=List.mem_map.mp hm;exact hout x hx e
   ·rcases List.mem_cons.mp (hX2.subset hx)with rfl | hx
    ·exact⟨z0s hk ho S.data sb,hi⟩
    ·obtain⟨q1,q2⟩:=S.is x hx;exact⟨z0s q1 ho S.data sb,q2⟩
  have x1l:X1.length=X.length+1:=by simpa using hX2.length_eq
  refine wpAny_bind (wpAny_storeSet_of ho S.data ?_ ?_)
  ·have full:t1.tooFull=decide (t1.mask*3<=(Z.length+1)*5):=by
    unfold SetTable.tooFull SetTable.fill;rw[p2.pl,p2.du];simp[zP,zl]
   rw[full,p3];by_cases c:t.mask*3<=(Z.length+1)*5
   ·rw[decide_eq_true c,if_pos (by decide)];have gr:grown ((zE Z).toArray.size+1)=(Z.length+1)*4:=by
     unfold grown;simp[zE];unfold siz at hz;omega
    have hrel:∀{wanted:Nat},siz (sizeAbove wanted - 1) X1.length->sizeAbove wanted<=128->grown ((zE Z).toArray.size+1)=wanted->wpAny (model P w) A (do setRelay a (grown ((zE Z).toArray.size+1));pure true) Q E { s with heap:=s.heap.update a (Obj.putSet (zE (insZ Z z)).toArray t1) }:=fun{wanted} q1 q2 q3=>by
     rw[q3];refine wpAny_bind (z9P (s:={ s with heap:=s.heap.update a (Obj.putSet (zE (insZ Z z)).toArray t1) }) ho1 S1 q1 q2 fun h' X' sb' hS' pX=>wpAny_pure ?_);exact h h' X' true (sb.trans sb') hS' (.inr ⟨hout,pX.trans hX2⟩)
    unfold siz at hz;rcases hz with ⟨e,hn⟩ | ⟨e,hn⟩ | ⟨e,hn⟩
    ·have:Z.length=4:=by omega
     refine hrel (wanted:=20) (.inr (.inl ⟨by decide,by omega⟩)) (by decide) (by rw[gr,this])
    ·have:Z.length=18:=by omega
     refine hrel (wanted:=76) (.inr (.inr ⟨by decide,by omega⟩)) (by decide) (by rw[gr,this])
    ·omega
   ·rw[decide_eq_false c,if_neg (by decide)];refine wpAny_pure (h _ X1 true sb ⟨_,ep+1,t1,insZ Z z,ho1,S1,?_⟩ (.inr ⟨hout,hX2⟩));rw[p3,zl];unfold siz at hz |-;omega
  ·rw[sizeLine_eq];simp[zE,zl];unfold siz at hz;omega
 ·have hzi:(zP Z)[i]?≠none:=by
   have:=(List.getElem?_eq_some_iff.mp ex).1;simp[zP];omega
  cases hj:(zP Z)[i]? with
  | none=>exact absurd hj hzi
  | some j=>
   have hm:(j,ent (zT P w) x)∈Z:=by
    have hiZ:i<Z.length:=by have:=(List.getElem?_eq_some_iff.mp ex).1;omega
    have e1:Z[i]?=some Z[i]:=List.getElem?_eq_getElem hiZ;have e2:(zP Z)[i]?=some (Z[i]).1:=by unfold zP;rw[List.getElem?_map,e1];rfl
    have e3:(zE Z)[i]?=some (Z[i]).2:=by unfold zE;rw[List.getElem?_map,e1];rfl
    rw[S.ent,List.getElem?_map,ex]at e3;have e3:ent (zT P w) x=(Z[i]).2:=Option.some.inj e3;rw[hj]at e2;have e2:j=(Z[i]).1:=Option.some.inj e2;rw[e2,e3];exact List.mem_of_getElem? e1
   obtain⟨q,hq1,hq2⟩:=S.tb.rc _ hm;have hh:(ent (zT P w) x).1=(tk P w).hash k:=by rw[<-hx];rfl
   rw[hh]at hq1 hq2;refine⟨q,Nat.zero_le _,?_,by rw[hq1]⟩;refine Classical.byContradiction fun hno=>?_;rcases Nat.lt_or_ge nF q with c | c
   ·exact h1 (hq2 nF c)
   ·have:q=nF:=by omega
    subst this;rw[hq1]at h1;exact h1 (List.mem_of_getElem? hj)
end
theorem z49{Pl:List Nat}(ris:Pl.Pairwise (·<·)){i:Nat}(hi:i<=Pl.length):SetTable.below Pl.toArray (xG Pl i)=i:=by
 have B:=z1B ris (xG Pl i);generalize hb:SetTable.below Pl.toArray (xG Pl i)=b at B;have ord:∀{a b:Nat} (ha:a<Pl.length) (hb:b<Pl.length),a<b->Pl[a]<Pl[b]:=fun ha hb h=>List.pairwise_iff_getElem.mp ris _ _ ha hb h;have at_:∀{k:Nat} (hk:k<Pl.length),Pl[k]?=some Pl[k]:=fun hk=>List.getElem?_eq_getElem hk;rcases Nat.lt_trichotomy b i with c | c | c
 ·have hb':b<Pl.length:=by omega
  have h1:=B.hi b _ (Nat.le_refl _) (at_ hb');unfold xG at h1;rw[if_neg (by omega),List.getD_eq_getElem?_getD,at_ (show i - 1<Pl.length by omega),Option.getD_some]at h1;rcases Nat.lt_or_ge b (i - 1)with h | h
  ·have:=ord hb' (show i - 1<Pl.length by omega) h;omega
  ·have e:b=i - 1:=by omega
   subst e;omega
 ·exact c
 ·have hi':i<Pl.length:=by have:=B.le;omega
  have h1:=B.lo i _ c (at_ hi');unfold xG at h1;by_cases h0:i=0
  ·rw[if_pos h0]at h1;omega
  ·rw[if_neg h0,List.getD_eq_getElem?_getD,at_ (show i - 1<Pl.length by omega),Option.getD_some]at h1
   have:=ord (show i - 1<Pl.length by omega) hi' (by omega);omega
section
variable{prog:Program}{w:World}{A:Around}{E:Value->Shared->Prop}{s:Shared}
def SetG(h:Heap)(a:Addr)(led:Bool)(Pl:List Nat)(es:Array (Int×Value))(ep:Nat):Prop:=∃o t,h.get? a=some o/\o.ExactSet/\o.data=.set es ep t/\t.place=Pl.toArray/\Pl.Pairwise (·<·)/\Pl.length=es.size/\t.led=led/\t.plain=true/\t.fits es.size=true
theorem z3Z{a:Addr}{ep i:Nat}{Pl:List Nat}{es:Array (Int×Value)}{Q:Option (Value×Nat)->Shared->Prop}(hi:i<=es.size)(hS:SetG s.heap a (!w.params.followText "set-order") Pl es ep)
  (h:Q ((yZ w a ep es)[i]?.map fun e=>(e.2,slOf w Pl (i+1))) s):wpAny (model prog w) A (setNext a (slOf w Pl i) i ep) Q E s:=by
 obtain⟨o,t,ho,hex,hd,hpl,hris,hlen,hled,hplain,hf⟩:=hS;unfold setNext;refine wpAny_bind (wpAny_setState_of ho hd hf ?_);dsimp only;unfold setsByText;refine wpAny_bind (wpAny_bind (wpAny_askSetting (wpAny_pure ?_)));show wpAny _ _ (if w.params.followText "set-order"=true then _ else _) _ _ s;cases hb:w.params.followText "set-order" with
 | true=>
  simp only[↓reduceIte,bne_self_eq_false,Bool.false_eq_true];unfold setWalk;refine wpAny_bind (wpAny_bind (wpAny_setState_of ho hd hf ?_));dsimp only;unfold setsByText;refine wpAny_bind (wpAny_bind (wpAny_askSetting (wpAny_pure ?_)));show wpAny _ _ (if w.params.followText "set-order"=true then _ else _) _ _ s;rw[hb];simp only[↓reduceIte];refine wpAny_bind (wpAny_askSetting (wpAny_pure (wpAny_pure ?_)));simp only[yZ,slOf,hb,↓reduceIte]at h |-;exact h
 | false=>
  simp only[Bool.false_eq_true,↓reduceIte];split
  next hdr=>
   have:(!t.plain && decide (es.size>1))=true:=hdr;rw[hplain]at this;simp at this
  next hdr=>
   refine wpAny_bind ?_;show wpAny _ _ (if (!t.led && !es.isEmpty)=true then unsupported "set:maker-not-led" else pure ()) _ _ s;rw[hled,hb];simp only[Bool.not_false,Bool.not_true,Bool.false_and,Bool.false_eq_true,↓reduceIte];refine wpAny_pure (wpAny_pure ?_);simp only[yZ,slOf,hb,Bool.false_eq_true,↓reduceIte]at h |-;rw[hpl,z49 hris (by omega)];by_cases hlt:i<es.size
   ·have e1:es[i]?=some es[i]:=Array.getElem?_eq_getElem hlt;have hl2:i<Pl.length:=by omega
    have e2:Pl.toArray[i]?=some Pl[i]:=by simp[hl2]
    rw[e1,e2];rw[e1]at h;have e3:xG Pl (i+1)=Pl[i]+1:=by
     unfold xG;rw[if_neg (Nat.succ_ne_zero i),Nat.add_sub_cancel,List.getD_eq_getElem?_getD,List.getElem?_eq_getElem hl2];rfl
    rw[e3]at h;exact h
   ·have e1:es[i]?=none:=Array.getElem?_eq_none (by omega);rw[e1]at h |-;exact h
theorem SetG.at{h h':Heap}{a:Addr}{led:Bool}{Pl:List Nat}{ep:Nat}{es:Array (Int×Value)}(x:SetG h a led Pl es ep)(e:∀o,h.get? a=some o->h'.get? a=some o):SetG h' a led Pl es ep:=by
 obtain⟨o,t,ho,r⟩:=x;exact⟨o,t,e _ ho,r⟩
theorem z77{I S ep i:Nat}{Pl:List Nat}{es:Array (Int×Value)}{x:Int×Value}{Q:Option Value->Shared->Prop}(hi:i<es.size)(hit:IsSI s.heap I S es.size ep (slOf w Pl i) i)(hS:SetG s.heap S (zr w) Pl es ep)(hx:(yZ w S ep es)[i]?=some x)
  (hQ:∀h',IsSI h' I S es.size ep (slOf w Pl (i+1)) (i+1)->Heap.SameBut I s.heap h'->Q (some x.2) { s with heap:=h' }):wpAny (model prog w) A (pyNext (.ref I)) Q E s:=by
 obtain⟨o,ho,hc,hd⟩:=id hit;unfold pyNext;refine wpAny_bind (wpAny_attempt (wpAny_callSpecial?_slot (name:=Str.ofString "__next__") hit.typeIs si_slot_next (wpAny_call_entry si_slot_next hit.typeIs yo ?_ (xA _))));show wpAny _ _ (fieldsOf (.ref I) >>= _) _ _ s;refine wpAny_bind (wpAny_fieldsOf ho hd ?_);dsimp only;obtain⟨oS,tS,hoS,hexS,hdS,_,_,_,_,_,hfS⟩:=id hS;show wpAny _ _ (setEntries S >>= _) _ _ s;refine wpAny_bind (wpAny_setEntries_of hoS hdS hfS ?_);rw[if_neg (by simp)];show wpAny _ _ (setNext S ((slOf w Pl i:Nat):Int).toNat ((i:Nat):Int).toNat ((ep:Nat):Int).toNat >>= _) _ _ s;simp only[Int.toNat_natCast];refine wpAny_bind (z3Z (Nat.le_of_lt hi) hS ?_);rw[hx];dsimp only[Option.map_some];refine wpAny_bind (wpAny_setField ho hd (by simp) ?_);have g1:(s.heap.update I (Obj.mapFields (·.setIfInBounds 0 (rawInt (slOf w Pl (i+1)))))).get? I=some _:=Heap.get?_update_self _ ho (Obj.isFreed_of_fields (Obj.data_mapFields hd _));refine wpAny_bind (wpAny_setField g1 (Obj.data_mapFields hd _) (by simp) (wpAny_pure ⟨x.2,rfl,wpAny_pure (hQ _ ?_ ((Heap.SameBut.update ..).trans (Heap.SameBut.update ..)))⟩));refine⟨_,Heap.get?_update_self _ g1 (Obj.isFreed_of_fields (Obj.data_mapFields (Obj.data_mapFields hd _) _)),(Obj.cls_mapFields ..).trans ((Obj.cls_mapFields ..).trans hc),?_⟩;rw[Obj.data_mapFields (Obj.data_mapFields hd _)];simp[rawInt]
theorem zA4{I S ep:Nat}{Pl:List Nat}{es:Array (Int×Value)}{Q:Option Value->Shared->Prop}(hh:A.handled=none)(hit:IsSI s.heap I S es.size ep (slOf w Pl es.size) es.size)(hS:SetG s.heap S (zr w) Pl es ep)
  (hQ:∀h',Heap.ExtBut I s.heap h'->Q none { s with heap:=h' }):wpAny (model prog w) A (pyNext (.ref I)) Q E s:=by
 obtain⟨o,ho,hc,hd⟩:=id hit;unfold pyNext;refine wpAny_bind (wpAny_attempt (wpAny_callSpecial?_slot (name:=Str.ofString "__next__") hit.typeIs si_slot_next (wpAny_call_entry si_slot_next hit.typeIs yo ?_ (xA _))));show wpAny _ _ (fieldsOf (.ref I) >>= _) _ _ s;refine wpAny_bind (wpAny_fieldsOf ho hd ?_);dsimp only;obtain⟨oS,tS,hoS,hexS,hdS,_,_,_,_,_,hfS⟩:=id hS;show wpAny _ _ (setEntries S >>= _) _ _ s;refine wpAny_bind (wpAny_setEntries_of hoS hdS hfS ?_);rw[if_neg (by simp)];show wpAny _ _ (setNext S ((slOf w Pl es.size:Nat):Int).toNat ((es.size:Nat):Int).toNat ((ep:Nat):Int).toNat >>= _) _ _ s;simp only[Int.toNat_natCast];refine wpAny_bind (z3Z (Nat.le_refl _) hS ?_);have hx:(yZ w S ep es)[es.size]?=none:=by
  have:=(yz w S ep es).length_eq;exact Array.getElem?_eq_none (by simpa using Nat.le_of_eq this)
 rw[hx];dsimp only[Option.map_none];refine wpAny_bind (wpAny_setField ho hd (by simp) ?_);show wpAny _ _ (newExc (.type "StopIteration") [] >>= _) _ _ _;refine wpAny_bind ?_;simp only[newExc,newTuple];refine wpAny_bind (wpAny_newObj_type ?_ (by size_fits));refine wpAny_bind (m:=firstArgMember _ _) (wpAny_of_eq (a:=Value.none) (by first | rfl | (simp only[firstArgMember];rfl)) ?_);refine wpAny_newObj_type ?_ (by size_fits);simp only[raiseNew];refine wpAny_bind (wpAny_handled ?_);rw[show A.in1.handled=none from hh];refine wpAny_bind (wpAny_pure (wpAny_throw ?_));refine wpAny_bind (wpAny_isInstance (T:="StopIteration") (b:=true) ⟨_,Heap.get?_push_size _ rfl,rfl⟩ isSubtype_stop ?_);exact wpAny_pure (hQ _ (((Heap.SameBut.update ..).extBut.push _).push _))
theorem zBh(hh:A.handled=none)(I S:Addr)(hne:S≠I){ep:Nat}{Pl:List Nat}{es:Array (Int×Value)}:
  PySem.Walks prog w A I [I,S] [I] es.size (fun i v=>((yZ w S ep es)[i]?.map (·.2))=some v) (fun i h=>IsSI h I S es.size ep (slOf w Pl i) i/\SetG h S (zr w) Pl es ep) where
 sub:=fun b hb=>by simp at hb;simp[hb]
 frame:=fun _ _ _ st hk=>⟨let⟨o,ho,r⟩:=st.1;⟨o,hk I (by simp) o ho,r⟩,st.2.at fun o e=>hk S (by simp) o e⟩
 item:=fun i s Q E hi st hQ=>by
  have hl:=(yz w S ep es).length_eq;have hi':i<(yZ w S ep es).size:=by simpa using (by rw[Array.length_toList,Array.length_toList]at hl;omega:i<(yZ w S ep es).size)
  refine z77 hi st.1 st.2 (x:=(yZ w S ep es)[i]) (Array.getElem?_eq_getElem hi') fun h' hit' hs'=>?_;exact hQ _ h' s.toks (by rw[Array.getElem?_eq_getElem hi'];rfl) ⟨hit',st.2.at fun o e=>hs'.extBut S o hne e⟩ fun b o hb e=>hs'.extBut b o (fun h=>hb (by simp[h])) e
 done:=fun s Q E st hQ=>zA4 hh st.1 st.2 fun h' he'=>hQ h' s.toks fun b o hb e=>he' b o (fun h=>hb (by simp[h])) e
 self:=fun _ _ _ _ st hQ=>z4q st.1 hQ
theorem zCd{S ep:Nat}{Pl:List Nat}{es:Array (Int×Value)}{Q:Value->Shared->Prop}(hS:SetG s.heap S (zr w) Pl es ep)
  (hQ:Q (.ref s.heap.objs.size) { s with heap:=s.heap.push { cls:=.type "set_iterator",data:=.fields #[.int 0 0,.int 0 0,.ref S,.int (es.size:Int) 0,.int (ep:Int) 0] } }):wpAny (model prog w) A (pyIter (.ref S)) Q E s:=by
 obtain⟨o,t,ho,hex,hd,hpl,hris,hlen,hled,hplain,hf⟩:=hS;have hT:s.TypeIs (.ref S) "set":=⟨o,ho,hex.1⟩;refine wpAny_pyIter_slot hT F.slot_set_iter (wpAny_call_entry F.slot_set_iter hT wy ?_ (F.args_set_iter_1 _));show wpAny _ _ (Builtin.Frozenset.sizeOf S >>= _) _ _ s;unfold Builtin.Frozenset.sizeOf;refine wpAny_bind (wpAny_bind (wpAny_setEntries_of ho hd hf (wpAny_pure ?_)));unfold setDrawn;refine wpAny_bind (wpAny_bind (wpAny_setState_of ho hd hf ?_));dsimp only;unfold setsByText;refine wpAny_bind (wpAny_bind (wpAny_askSetting (wpAny_pure ?_)));refine wpAny_pure ?_;have nd:(!w.params.followText "set-order" && (!t.plain && decide (es.size>1)))=false:=by rw[hplain];simp
 rw[if_neg (fun z=>by
  have z':(!w.params.followText "set-order" && (!t.plain && decide (es.size>1)))=true:=z;rw[nd]at z';cases z')]
 refine wpAny_bind (wpAny_pure ?_);unfold setEpoch;refine wpAny_bind (wpAny_bind (wpAny_setState_of ho hd hf (wpAny_pure ?_)));exact wpAny_bind (wpAny_newObj_type (wpAny_pure ⟨_,rfl,"set_iterator",_,⟨_,Heap.get?_push_size _ rfl,rfl⟩,si_slot_next.lookup,hQ⟩))
theorem z7Z{S ep:Nat}{Pl:List Nat}{es:Array (Int×Value)}{Q:List Value->Shared->Prop}(hh:A.handled=none)(h63:es.size<1000)(hS:SetG s.heap S (zr w) Pl es ep)
  (hQ:∀h' tk,(∀b o,s.heap.get? b=some o->h'.get? b=some o)->Q ((yZ w S ep es).toList.map (·.2)) { s with heap:=h',toks:=tk }) :
  wpAny (model prog w) A (collect (.ref S)) Q E s:=by
 obtain⟨o,t,ho,hex,hd,hpl,hris,hlen,hled,hplain,hf⟩:=id hS;have hSlt:=Heap.lt_size ho;unfold collect;refine wpAny_bind (wpAny_runValue (codeAny_builtin F.entry_proto_collect ?_));rw[Around.under_plainId F.plain_proto_collect _];show wpAny _ A.in1 (newList [] >>= fun l=>again (.builtin "list.__iadd__" ⟨[l,.ref S],[]⟩)) _ _ s;refine wpAny_bind (wpAny_newObj_type ?_);refine wpAny_pure ⟨plainId_quiet F.plain_list_iadd _,codeAny_builtin F.entry_list_iadd ?_⟩;rw[Around.under_plainId F.plain_list_iadd _];show wpAny _ A.in1 (Builtin.List.listExtendWith (.ref s.heap.objs.size) (.ref S) (.ref s.heap.objs.size)) _ _ _;unfold Builtin.List.listExtendWith;generalize hH:s.heap.push { cls:=.type "list",data:=.seq ([]:List Value).toArray }=H;have hHs:H.objs.size=s.heap.objs.size+1:=by rw[<-hH,Heap.size_push]
 have keep:∀b ob,s.heap.get? b=some ob->H.get? b=some ob:=fun b ob e=>hH▸Heap.get?_push_of_some _ e;have hS1:SetG H S (zr w) Pl es ep:=hS.at fun ob e=>keep S ob e;have hT:Shared.TypeIs { s with heap:=H } (.ref S) "set":=⟨o,keep _ _ ho,hex.1⟩;refine wpAny_bind (wpAny_typeOf (T:="set") (v:=.ref S) hT ?_);have hSI:s.heap.objs.size≠S:=Nat.ne_of_gt hSlt;have h1:Builtin.List.listSameRef (.ref s.heap.objs.size) (.ref S)=false:=by simp[Builtin.List.listSameRef,hSI]
 have h2:(Value.type "set" == Value.type "list")=false:=by decide
 have h3:(Value.type "set" == Value.type "tuple")=false:=by decide
 simp only[h1,h2,h3,Bool.or_false,Bool.false_eq_true,if_false];refine wpAny_bind (zCd (s:={ s with heap:=H }) hS1 ?_);have hT2:Shared.TypeIs { s with heap:=H.push { cls:=.type "set_iterator",data:=.fields #[.int 0 0,.int 0 0,.ref S,.int (es.size:Int) 0,.int (ep:Int) 0] } } (.ref S) "set":=⟨o,Heap.get?_push_of_some _ (keep _ _ ho),hex.1⟩;refine wpAny_bind (wpAny_holding ?_);unfold Builtin.List.listLengthHint;refine wpAny_bind (wpAny_specialOf (T:="set") (v:=.ref S) hT2 zBK ?_)
 wp_delta
 refine wpAny_bind (wpAny_isInstance (T:="set") (v:=.ref S) (b:=true) hT2 (by rw[isSubtype_type];kernel_rfl) ?_);show wpAny _ A.in1 (typeOf (Value.ref S) >>= _) _ _ _;refine wpAny_bind (wpAny_typeOf (T:="set") (v:=.ref S) hT2 ?_);refine wpAny_pure ?_;rw[if_pos (by decide)];have hSf:s.heap.objs.size∉[H.objs.size,S]:=by
  rw[hHs];simp only[List.mem_cons,List.mem_singleton,List.not_mem_nil,or_false,not_or];exact⟨Nat.ne_of_lt (Nat.lt_succ_self _),hSI⟩
 have hL:(H.push { cls:=.type "set_iterator",data:=.fields #[.int 0 0,.int 0 0,.ref S,.int (es.size:Int) 0,.int (ep:Int) 0] }).get? s.heap.objs.size=some { cls:=.type "list",data:=.seq ([]:List Value).toArray }:=Heap.get?_push_of_some _ (hH▸Heap.get?_push_size _ rfl);have hneI:S≠H.objs.size:=by rw[hHs];exact Nat.ne_of_lt (Nat.lt_succ_of_lt hSlt)
 have hs0:slOf w Pl 0=0:=by unfold slOf xG;simp
 refine wpAny_bind (wpAny_rule ?_);unfold Builtin.List.listTouch;refine wpAny_bind (wpAny_bind (listUpdate_at hL rfl ?_ (by decide) (by decide)));have g1:=Heap.get?_update_self (Obj.mapSeq (·.push .none)) hL rfl;refine listUpdate_at g1 rfl ?_ (by decide) (by decide);have g2:=Heap.get?_update_self (Obj.mapSeq (·.pop)) g1 rfl;have sb:=(Heap.SameBut.update (H.push { cls:=.type "set_iterator",data:=.fields #[.int 0 0,.int 0 0,.ref S,.int (es.size:Int) 0,.int (ep:Int) 0] }) s.heap.objs.size (Obj.mapSeq (·.push .none))).trans (Heap.SameBut.update _ s.heap.objs.size (Obj.mapSeq (·.pop)));generalize hH2:((H.push { cls:=.type "set_iterator",data:=.fields #[.int 0 0,.int 0 0,.ref S,.int (es.size:Int) 0,.int (ep:Int) 0] }).update s.heap.objs.size (Obj.mapSeq (·.push .none))).update s.heap.objs.size (Obj.mapSeq (·.pop))=H2 at g2 sb |-;have hIT:H2.get? H.objs.size=some { cls:=.type "set_iterator",data:=.fields #[.int 0 0,.int 0 0,.ref S,.int (es.size:Int) 0,.int (ep:Int) 0] }:=sb.extBut _ _ (by rw[hHs];exact Nat.ne_of_gt (Nat.lt_succ_self _)) (Heap.get?_push_size _ rfl);have hI0:IsSI H2 H.objs.size S es.size ep (slOf w Pl 0) 0:=by
  rw[hs0];exact⟨_,hIT,rfl,rfl⟩
 have hS2:SetG H2 S (zr w) Pl es ep:=hS1.at fun ob e=>sb.extBut _ _ (Ne.symm hSI) (Heap.get?_push_of_some _ e);refine wpAny_pure ⟨plainId_quiet F.plain_extend_loop _,codeAny_extend_loopS (zBh (A:=A.in1) (ep:=ep) (es:=es) hh H.objs.size S hneI).toS (by rw[sizeLine_eq];omega) _ hSf _ es.size 0 _ _ _ rfl (Nat.zero_le _) ⟨hI0,hS2⟩ g2 (ItemsOf.nil _) fun s' acc' c' hmv hS' hacc=>?_⟩;show wpAny _ A (load s.heap.objs.size >>= _) _ _ s';refine wpAny_bind (wpAny_load hS' ?_);obtain⟨h',g',d',tk',os'⟩:=s';have eg:g'=s.gens:=hmv.gens;have ed:d'=s.drawn:=hmv.drawn;have eo:os'=s.os:=hmv.os;subst eg;subst ed;subst eo;have eacc:acc'.toList=(yZ w S ep es).toList.map (·.2):=by
  have hl:=(yz w S ep es).length_eq;rw[Array.length_toList,Array.length_toList]at hl;refine List.ext_getElem? fun i=>?_;rw[List.getElem?_map,Array.getElem?_toList,Array.getElem?_toList];cases e:acc'[i]? with
  | some v=>exact(hacc.2 i v e).symm
  | none=>
   have h1:=Array.getElem?_eq_none_iff.mp e;rw[hacc.1]at h1;rw[Array.getElem?_eq_none (by omega)];rfl
 refine wpAny_pure ?_;rw[eacc];refine hQ h' tk' fun b ob e=>hmv.heap b ob (fun hb=>?_) (sb.extBut _ _ (Nat.ne_of_lt (Heap.lt_size e)) (Heap.get?_push_of_some _ (keep _ _ e)));have hlt:=Heap.lt_size e;rcases List.mem_cons.mp hb with h | h
 ·exact absurd hlt (h▸Nat.lt_irrefl _)
 ·rw[List.mem_singleton.mp h,hHs]at hlt;exact absurd hlt (Nat.not_lt.mpr (Nat.le_succ _))
end
section
variable{prog:Program}{w:World}{A:Around}
theorem z34{h h':Heap}{b:Addr}{k:List Key}(hk:(tk prog w).is h k b)(e:∀o,h.get? b=some o->h'.get? b=some o):(tk prog w).is h' k b:=by
 obtain⟨o',items,n,ho',hc,hd',hi⟩:=(show IsTupleKey (zT prog w) h k b from hk);exact⟨o',items,n,e _ ho',hc,hd',hi⟩
theorem SetT.at{h h':Heap}{a:Addr}{led:Bool}{X:List (List Key×Addr)}(S:SetT prog w h a led X)(e:∀o,h.get? a=some o->h'.get? a=some o)(ex:∀x∈X,∀o,h.get? x.2=some o->h'.get? x.2=some o):SetT prog w h' a led X:=by
 obtain⟨o,ep,t,Z,ho,S,hz⟩:=S;exact⟨o,ep,t,Z,e _ ho,{ S with is:=fun x hx=>⟨z34 (S.is x hx).1 (ex x hx),(S.is x hx).2⟩ },hz⟩
def Filled(ky:Nat->List Key)(ad:Nat->Addr)(i:Nat)(X:List (List Key×Addr)):Prop:=(∀x∈X,∃j,j<i/\x=(ky j,ad j))/\(∀j,j<i->∃x∈X,x.1=ky j)/\X.length<=i
theorem Filled.add{ky:Nat->List Key}{ad:Nat->Addr}{i:Nat}{X X':List (List Key×Addr)}(F:Filled ky ad i X)(h:zC4 X X' (ky i) (ad i)):Filled ky ad (i+1) X':=by
 obtain⟨f1,f2,f3⟩:=F;rcases h with ⟨⟨x,hx,e⟩,rfl⟩ | ⟨hn,hp⟩
 ·refine⟨fun x hx=>?_,fun j hj=>?_,by omega⟩
  ·obtain⟨j,hj,e⟩:=f1 x hx;exact⟨j,by omega,e⟩
  ·by_cases c:j=i
   ·subst c;exact⟨x,hx,e⟩
   ·exact f2 j (by omega)
 ·refine⟨fun x hx=>?_,fun j hj=>?_,by have:=hp.length_eq;simp at this;omega⟩
  ·rcases List.mem_cons.mp (hp.mem_iff.mp hx)with rfl | hx
   ·exact⟨i,by omega,rfl⟩
   ·obtain⟨j,hj,e⟩:=f1 x hx;exact⟨j,by omega,e⟩
  ·by_cases c:j=i
   ·subst c;exact⟨_,hp.mem_iff.mpr List.mem_cons_self,rfl⟩
   ·obtain⟨x,hx,e⟩:=f2 j (by omega);exact⟨x,hp.mem_iff.mpr (List.mem_cons_of_mem _ hx),e⟩
variable{R:Result->Shared->Prop}{I:Addr}{fp wr:List Addr}{G:Array GenState->Array GenState->Prop}{n:Nat}{P:Nat->Value->Prop}{St:Nat->Shared->Prop}
theorem zD3(W:WalksS prog w A.in1 I fp wr G n P St)(S:Addr)(hSf:S∉fp)(ky:Nat->List Key)(ad:Nat->Addr){led:Bool}(hu:(tk prog w).room A.in1)(hn:n<=76)
  (hval:∀i v,P i v->v=.ref (ad i)) (hi8:∀i,i<n->intK (ky i)) (had:∀i,i<n->ad i∉S::wr) :
  ∀(k i:Nat) (s:Shared) (X:List (List Key×Addr)),n - i=k->i<=n->St i s->(∀j,j<n->(tk prog w).is s.heap (ky j) (ad j))->SetT prog w s.heap S led X->Filled ky ad i X->
   (∀s' X',Moved (S::wr) G s s'->SetT prog w s'.heap S led X'->Filled ky ad n X'->R (.ok (.ret .none)) s')->
   codeAny (model prog w) A (.builtin "set.update.loop" ⟨[.ref S,.ref I],[]⟩) R s:=by
 have hSw:S∉wr:=fun h=>hSf (W.sub _ h);have hsub:∀b∈wr,b∈S::wr:=fun b hb=>List.mem_cons_of_mem _ hb;have hX:∀{i:Nat} {X:List (List Key×Addr)},i<=n->Filled ky ad i X->∀x∈X,x.2∉S::wr:=fun hi F x hx=>by
  obtain⟨j,hj,e⟩:=F.1 x hx;rw[e];exact had j (by omega)
 intro k
 induction k with
 | zero=>
  intro i s X hk hi hst hky hS hF hR;obtain rfl:i=n:=by omega
  refine codeAny_builtin PyProof.Rows.F.entry_set_update_loop ?_;rw[Around.under_plainId PyProof.Rows.F.plain_set_update_loop _];show wpAny _ A.in1 (pyNext (.ref I) >>= _) _ _ s;refine wpAny_bind (W.done s _ _ hst fun s' hm=>?_);show wpAny _ A.in1 (ret Value.none) _ _ s';exact wpAny_pure (hR s' X (hm.mono hsub) (hS.at (fun o e=>hm.heap S _ hSw e) fun x hx o e=>hm.heap _ _ (fun z=>hX (Nat.le_refl _) hF x hx (hsub _ z)) e) hF)
 | succ k ih=>
  intro i s X hk hi hst hky hS hF hR;have hlt:i<n:=by omega
  refine codeAny_builtin PyProof.Rows.F.entry_set_update_loop ?_;rw[Around.under_plainId PyProof.Rows.F.plain_set_update_loop _];show wpAny _ A.in1 (pyNext (.ref I) >>= _) _ _ s;refine wpAny_bind (W.item i s _ _ hlt hst fun v s' hP hst' hm=>?_);obtain rfl:=hval i v hP;have hS':SetT prog w s'.heap S led X:=hS.at (fun o e=>hm.heap S _ hSw e) fun x hx o e=>hm.heap _ _ (fun z=>hX hi hF x hx (hsub _ z)) e;have hky':∀j,j<n->(tk prog w).is s'.heap (ky j) (ad j):=fun j hj=>z34 (hky j hj) fun o e=>hm.heap _ _ (fun z=>had j hj (hsub _ z)) e;show wpAny _ A.in1 (holding [Value.ref (ad i)] (setAdd S (.ref (ad i))) >>= _) _ _ s';refine wpAny_bind (wpAny_holding ?_);unfold setAdd;refine wpAny_holding ?_;refine wpAny_bind ((tk prog w).pyHash hu (hky' i hlt) ?_);refine zCZ (s:={ s' with toks:=s'.toks+(tk prog w).draws (ky i) }) hu (hky' i hlt) (hi8 i hlt) hS' (by have:=hF.2.2;omega) fun h' X' r hsb hS2 hA=>?_;refine wpAny_pure ⟨plainId_quiet PyProof.Rows.F.plain_set_update_loop _,ih (i+1) _ X' (by omega) hlt (W.frame _ s' _ _ hst' (Nat.le_add_right _ _) fun b hb o e=>?_) (fun j hj=>z34 (hky' j hj) fun o e=>?_) hS2 (hF.add hA) fun s'' X'' hm'' hS'' hF''=>?_⟩
  ·rw[hsb.2 b (fun h:b=S=>hSf (by rw[<-h];exact hb))];exact e
  ·show h'.get? _=_;rw[hsb.2 (ad j) (fun h=>had j hj (by rw[h];exact List.mem_cons_self))];exact e
  ·refine hR s'' X'' (Moved.trans W.gtrans ((hm.mono hsub).then_heap (Nat.le_add_right _ _) fun b o hb e=>?_) hm'') hS'' hF'';rw[hsb.2 b (fun h:b=S=>hb (by rw[h];exact List.mem_cons_self))];exact e
theorem z7U{h:Heap}{a:Addr}{led:Bool}(e:h.get? a=some (oSet led)):SetT prog w h a led []:=by
 refine⟨_,0,_,[],e,⟨⟨rfl,rfl,rfl⟩,rfl,?_,rfl,rfl,?_,rfl,List.nodup_nil,fun x hx=>nomatch hx⟩,.inl ⟨rfl,Nat.zero_le _⟩⟩
 ·exact⟨rfl,rfl,List.Pairwise.nil⟩
 ·exact⟨List.Pairwise.nil,fun j hj=>(nomatch hj),Nat.zero_le _,fun z hz=>(nomatch hz)⟩
variable{E:Value->Shared->Prop}{s:Shared}
theorem z6G{l:Addr}{items:Array Value}{ky:Nat->List Key}{ad:Nat->Addr}{Q:Value->Shared->Prop}
  (hh:A.handled=none) (hl:s.heap.IsList l items) (hu:A.units+64<cLine) (hn:items.size<=76) (hv:∀(i:Nat) (v:Value),items[i]?=some v->v=.ref (ad i)) (hk:∀i,i<items.size->(tk prog w).is s.heap (ky i) (ad i)) (hi:∀i,i<items.size->intK (ky i))
  (h:∀(h':Heap) (tk:Nat) (X:List (List Key×Addr)),SetT prog w h' s.heap.objs.size (zr w) X->Filled ky ad items.size X->(∀b o,s.heap.get? b=some o->h'.get? b=some o)->Q (.ref s.heap.objs.size) { s with heap:=h',toks:=tk }) :
  wpAny (model prog w) A (call (.type "set") [.ref l]) Q E s:=by
 obtain⟨c,tl,hmro⟩:=PySem.F.called_set.mro;have hmade:=PySem.F.called_set.made;have hsub:=PySem.F.called_set.sub;refine wpAny_call (codeAny_of_tree ?_);show wpAny _ _ (callAny (.type "set") _) _ _ _;refine wpAny_pure ⟨Code.quiet_builtin _ (by decide +kernel),codeAny_builtin PySem.F.entry_type_call ?_⟩;rw[Around.under_plain (weight_type_call_type "set" [.ref l] []) rfl];have h1:=PySem.F.called_set.notType;have h2:=PySem.F.called_set.canCreate;have hct:=PySem.F.typeCall_set_1 (.ref l)
 repeat (any_goals (first | assumption | wp_step))
 refine codeAny_mono (z4n (.ref l) (E:=E) (Q₁:=fun obj s₁=>obj=.ref s.heap.objs.size/\s₁={ s with heap:=s.heap.push (oSet (zr w)) }) ⟨rfl,rfl⟩) fun r s₁ hr=>?_;cases r with
 | error e=>exact hr
 | ok fl=>
  cases fl with
  | ret obj=>
   obtain⟨rfl,rfl⟩:=hr;have hS:(s.heap.push (oSet (zr w))).get? s.heap.objs.size=some (oSet (zr w)):=Heap.get?_push_size _ rfl;have hT:Shared.TypeIs { s with heap:=s.heap.push (oSet (zr w)) } (.ref s.heap.objs.size) "set":=⟨_,hS,rfl⟩;have hli:=PySem.F.called_set.init.lookup;have hbi:=PySem.F.called_set.init.bind (.ref s.heap.objs.size)
   repeat (any_goals (first | assumption | wp_step))
   refine codeAny_mono (codeAny_call_builtin (R:=wants (fun r s₂=>r=.none/\∃h' tk X,s₂={ s with heap:=h',toks:=tk }/\SetT prog w h' s.heap.objs.size (zr w) X/\Filled ky ad items.size X/\
     (∀b o,s.heap.get? b=some o->h'.get? b=some o)) E) PySem.F.called_set.init.plain PySem.F.entry_set_init (check_set_init_1 hT ?_)) fun r₂ s₂ hr₂=>?_
   ·obtain⟨ol,hol,hcl,nl,hdl⟩:=hl;obtain⟨ocls,odict,odata,oslots⟩:=ol;simp only at hcl hdl;subst hcl;subst hdl;have hol':(s.heap.push (oSet (zr w))).get? l=some { cls:=.type "list",dict:=odict,data:=.seq items nl,slots:=oslots }:=Heap.get?_push_of_some _ hol;have hsls:=PySem.F.sub_list_set;have hslf:=PySem.F.sub_list_frozenset;have hne:(Value.type "list" == Value.type "dict")=false:=by decide
    have hl1:(s.heap.push (oSet (zr w))).IsList l items:=⟨_,hol',rfl,nl,rfl⟩;unfold Builtin.«set.__init__» noKeywords Builtin.Frozenset.updateFrom;generalize hPI:pyIter=PI
    wp_walk
    subst hPI;refine wpAny_pyIter_list hl1 ?_;refine wpAny_bind (wpAny_runValue ?_);have hlS:l<s.heap.objs.size:=Heap.lt_size hol;have hh3:A.in1.in1.in1.handled=none:=by simp[hh]
    have hneI:l≠(s.heap.push (oSet (zr w))).objs.size:=by
     rw[Heap.size_push];exact Nat.ne_of_lt (Nat.lt_succ_of_lt hlS)
    have hSf:s.heap.objs.size∉[(s.heap.push (oSet (zr w))).objs.size,l]:=by
     rw[Heap.size_push];simp only[List.mem_cons,List.mem_singleton,List.not_mem_nil,or_false,not_or];exact⟨Nat.ne_of_lt (Nat.lt_succ_self _),Nat.ne_of_gt hlS⟩
    have hkl:∀i,i<items.size->ad i<s.heap.objs.size:=fun i h=>by
     obtain⟨o',_,_,ho',_⟩:=(show IsTupleKey (zT prog w) s.heap (ky i) (ad i) from hk i h);exact Heap.lt_size ho'
    refine zD3 ((Walks.list hh3 _ l hneI items).toS) s.heap.objs.size hSf ky ad (led:=zr w) ?hroom hn hv hi (fun i h=>?hadn) (items.size - 0) 0 _ [] (by omega) (Nat.zero_le _)
     ⟨⟨_,Heap.get?_push_size _ rfl,rfl,rfl⟩,(hl1.push _)⟩ (fun i h=>z34 (hk i h) fun o e=>Heap.get?_push_of_some _ (Heap.get?_push_of_some _ e)) (z7U (Heap.get?_push_of_some _ hS)) ⟨fun x hx=>(nomatch hx),fun j hj=>absurd hj (Nat.not_lt_zero _),Nat.le_refl _⟩ ?hR
    case hroom=>
     show A.in1.in1.in1.units<cLine
     have:A.in1.in1.in1.units=A.units+1+1+1:=rfl;omega
    case hadn=>
     have:=hkl i h;rw[Heap.size_push];simp only[List.mem_cons,List.mem_singleton,List.not_mem_nil,or_false,not_or];exact⟨Nat.ne_of_lt this,Nat.ne_of_lt (Nat.lt_succ_of_lt this)⟩
    case hR=>
     intro s' X hm hS' hF';obtain⟨h',g',d',tk',os'⟩:=s';have eg:g'=s.gens:=hm.gens;have ed:d'=s.drawn:=hm.drawn;have eo:os'=s.os:=hm.os;subst eg;subst ed;subst eo;show wpAny _ _ _ _ _ _;refine wpAny_pure ?_;show wpAny _ _ (ret Value.none) _ _ _;refine wpAny_pure ⟨rfl,h',tk',X,rfl,hS',hF',fun b o e=>?_⟩;have hb:=Heap.lt_size e;have hb1:b≠s.heap.objs.size:=Nat.ne_of_lt hb;have hb2:b≠(s.heap.push (oSet (zr w))).objs.size:=by
      rw[Heap.size_push];exact Nat.ne_of_lt (Nat.lt_succ_of_lt hb)
     exact hm.heap b o (by simp only[List.mem_cons,List.mem_singleton,List.not_mem_nil,or_false,not_or];exact⟨hb1,hb2⟩) (Heap.get?_push_of_some _ (Heap.get?_push_of_some _ e))
   ·cases r₂ with
    | error e=>exact hr₂
    | ok fl₂=>
     cases fl₂ with
     | ret r=>
      obtain⟨rfl,h',tk,X,rfl,hS',hF',hk'⟩:=hr₂
      repeat (any_goals (first | assumption | wp_step))
      exact h _ _ _ hS' hF' hk'
     | next=>exact hr₂.elim
     | brk=>exact hr₂.elim
     | cont=>exact hr₂.elim
  | next=>exact hr.elim
  | brk=>exact hr.elim
  | cont=>exact hr.elim
end
noncomputable abbrev TuA:=List Int×Addr
noncomputable def kyI(ns:List Int):List Key:=ns.map Sum.inl
noncomputable def tpI(ns:List Int):PyData:=.tuple (ns.map PyData.int)
theorem z9E{a b:List Int}(h:kyI a=kyI b):a=b:=by
 have:(kyI a).map (fun k:Key=>match k with | .inl i=>i | .inr _=>0)=(kyI b).map (fun k:Key=>match k with | .inl i=>i | .inr _=>0):=by rw[h]
 simpa[kyI,List.map_map,Function.comp_def]using this
noncomputable def ddp:List PyData->List PyData
 | []=>[]
 | x::r=>if r.any (fun y=>decide (keyI y=keyI x))=true then ddp r else x::ddp r
theorem z21(ns:List Int):zn (ns.map PyData.int)=some ns:=by
 induction ns with
 | nil=>rfl
 | cons n ns ih=>simp only[List.map_cons,zn];rw[ih];rfl
theorem xY(ns:List Int):keyI (tpI ns)=ns:=by simp only[keyI,tpI,z21,Option.getD_some]
theorem z8Y{a b:List Int}(h:tpI a=tpI b):a=b:=by rw[<-xY a,<-xY b,h]
theorem z2e{nss:List (List Int)}:∀d,d∈ddp (nss.map tpI)↔d∈nss.map tpI:=by
 induction nss with
 | nil=>intro d;exact Iff.rfl
 | cons x r ih=>
  intro d;simp only[List.map_cons,ddp];split
  next h=>
   rw[ih d];obtain⟨y,hy,e⟩:=List.any_eq_true.mp h;have e:=of_decide_eq_true e;obtain⟨z,hz,rfl⟩:=List.mem_map.mp hy;rw[xY,xY]at e;subst e;exact⟨fun hd=>List.mem_cons_of_mem _ hd,fun hd=>(List.mem_cons.mp hd).elim (fun e=>e▸hy) id⟩
  next=>rw[List.mem_cons,List.mem_cons,ih d]
theorem z8z{nss:List (List Int)}:(ddp (nss.map tpI)).Nodup:=by
 induction nss with
 | nil=>exact List.nodup_nil
 | cons x r ih=>
  simp only[List.map_cons,ddp];split
  next h=>exact ih
  next h=>
   refine List.nodup_cons.mpr ⟨fun hm=>h ?_,ih⟩;exact List.any_eq_true.mpr ⟨_,z2e _ |>.mp hm,decide_eq_true rfl⟩
noncomputable def xa:PyData->Option PyData
 | .list ds=>if (ds.all xW && decide (ds.length<64))=true then some (.list (xI keyI (ddp ds)))else none
 | _=>none
noncomputable def φT(P:Program)(w:World)(D:Addr)(pr:List TuA):Heap->Prop:=fun h=>∃(Pl:List Nat) (es:Array (Int×Value)) (ep:Nat) (X:List (List Key×Addr)),SetG h D (zr w) Pl es ep/\es.toList=X.map (ent (zT P w))/\(X.map (·.1)).Nodup/\X.length<=pr.length/\(∀x∈X,∃p∈pr,x=(kyI p.1,p.2))/\∀p∈pr,∃x∈X,x.1=kyI p.1
variable{X:Cx}
noncomputable abbrev zCO(P:Program)(w:World)(K:W.Frag):List V->Hp->VK->Prop:=fun xs H Q=>∃(p:Addr) (pr:List TuA),xs=[.ref p]/\SqL K H p (pr.map fun q=>V.ref q.2)/\(∀q∈pr,H q.2=some (.tup (q.1.map V.int)))/\pr.length<64/\∀D,H D=none->Q (.ref D) (upd H D (.ext (φT P w D pr)))
theorem z4J(hc:X.calm=true)(hu:X.A.units+64<cLine):CallR X (.type "set") (zCO X.prog X.w X.K):=by
 intro pins s σ H xs us Q I r h;obtain⟨p,pr,rfl,hq,hT,h64,q⟩:=h;obtain⟨u,rfl,ru⟩:=xf r;cases ru;obtain⟨its,rv,pl,hz⟩:=I.list hq;have hlen:its.length=pr.length:=by rw[<-rv.length,List.length_map]
 have hsz:its.toArray.size=pr.length:=by simpa using hlen
 have gt:∀{i:Nat},i<pr.length->pr.getD i ([],0)∈pr:=fun{i} hi=>by
  rw[List.getD_eq_getElem?_getD,List.getElem?_eq_getElem hi];exact List.getElem_mem hi
 refine z6G (ky:=fun i=>kyI (pr.getD i ([],0)).1) (ad:=fun i=>(pr.getD i ([],0)).2) (I.ok.hd hc) pl.isList hu (by omega) (fun i v e=>?_) (fun i hi=>?_) (fun i hi=>?_) fun h' tk X1 hS hF kp=>?_
 ·have e':its[i]?=some v:=by simpa using e
  have hi:i<pr.length:=by rw[<-hlen];exact(List.getElem?_eq_some_iff.mp e').1
  obtain⟨v',e3,e4⟩:=rv.get (i:=i) (x:=.ref (pr.getD i ([],0)).2) (by rw[List.getElem?_map,List.getElem?_eq_getElem hi,List.getD_eq_getElem?_getD,List.getElem?_eq_getElem hi];rfl);rw[e3]at e';cases e';exact e4
 ·refine wA I.hok ?_;rw[hT _ (gt (by omega))];simp[kyI,List.map_map,Function.comp_def,kV]
 ·intro k hk;obtain⟨n,_,rfl⟩:=List.mem_map.mp hk;exact⟨n,rfl⟩
 ·rw[hsz]at hF;have hn:H s.heap.objs.size=none:=I.hok.fresh (Nat.le_refl _);obtain⟨o,ep,t,Z,ho,S,hz⟩:=hS;have hG:SetG h' s.heap.objs.size (zr X.w) (zP Z) (zE Z).toArray ep:=⟨o,t,ho,S.ex,S.data,S.cl.pl,S.cl.ris,by simp[zP,zE],S.led,S.plain,S.fits⟩;refine⟨.ref s.heap.objs.size,_,I.laid (t':=tk) (a:=s.heap.objs.size) (o:=.ext (φT X.prog X.w s.heap.objs.size pr)) (h':=h') kp (Nat.le_refl _) ⟨⟨zP Z,(zE Z).toArray,ep,X1,hG,by simpa using S.ent,S.nd,hF.2.2,fun x hx=>?_,fun q hq'=>?_⟩,?_,fun h1 h2 a b=>?_⟩,rfl,q _ hn⟩
  ·obtain⟨j,hj,e⟩:=hF.1 x hx;exact⟨_,gt hj,e⟩
  ·obtain⟨i,hi,rfl⟩:=List.mem_iff_getElem.mp hq';obtain⟨x,hx,e⟩:=hF.2.1 i hi;refine⟨x,hx,?_⟩;rw[e];show kyI (pr.getD i ([],0)).1=_;rw[List.getD_eq_getElem?_getD,List.getElem?_eq_getElem hi];rfl
  ·exact⟨o,ho⟩
  ·obtain⟨Pl,es,ep,X,g,r⟩:=a;exact⟨Pl,es,ep,X,g.at b,r⟩
noncomputable abbrev zB6(P:Program)(w:World):List V->Hp->VK->Prop:=fun xs H Q=>∃(D:Addr) (pr:List TuA) (S:Addr->Prop),xs=[.ref D]/\H D=some (.ext (φT P w D pr))/\(∀q∈pr,H q.2=some (.tup (q.1.map V.int))/\q.1≠[])/\pr.length<64/\(∀a,S a->H a≠none)/\
 ∀v H',Same H H'->DatS S H' (.list (xI keyI (ddp (pr.map fun q=>tpI q.1)))) v->Q v H'
theorem z0Z{S:Addr->Prop}{H:Hp}:∀ns:List Int,DatsS S H (ns.map PyData.int) (ns.map V.int)
 | []=>rfl
 | n::ns=>⟨_,_,rfl,rfl,z0Z ns⟩
theorem z4O(hc:X.calm=true):CallR X (.builtin "sorted") (zB6 X.prog X.w):=by
 intro pins s σ H xs us Q I r h;obtain⟨D,pr,S,rfl,hD,hT,h64,hS,q⟩:=h;obtain⟨u,rfl,ru⟩:=xf r;cases ru;obtain⟨hφ,_,_⟩:=I.hok D _ hD;obtain⟨Pl,es,ep,X0,hG,he,hnd,hl,hp1,hp2⟩:φT X.prog X.w D pr s.heap:=hφ;have pe:=yz X.w D ep es;rw[he]at pe;obtain⟨X1,hX1,hX2⟩:=z15 (ent (zT X.prog X.w)) pe rfl;have prov:∀x∈X1,∃p∈pr,x=(kyI p.1,p.2):=fun x hx=>hp1 x (hX2.mem_iff.mp hx);have gen:∀(l:List (List Key×Addr)),(∀x∈l,∃p∈pr,x=(kyI p.1,p.2))->∃nss:List (List Int),l.map (·.1)=nss.map kyI/\(∀ns∈nss,∃p∈pr,ns=p.1)/\DatsS S H (nss.map tpI) (l.map fun x=>V.ref x.2)/\Vals (l.map fun x=>V.ref x.2) ((l.map (ent (zT X.prog X.w))).map (·.2)):=fun l=>by
  induction l with
  | nil=>intro _;exact⟨[],rfl,fun _ h=>(nomatch h),rfl,.nil⟩
  | cons x l ih=>
   intro hl;obtain⟨p,hp,rfl⟩:=hl x List.mem_cons_self;obtain⟨nss,e1,e2,e3,e4⟩:=ih fun y hy=>hl y (List.mem_cons_of_mem _ hy);refine⟨p.1::nss,by simp[e1],fun ns hns=>?_,⟨_,_,rfl,⟨_,_,rfl,(hT p hp).1,z0Z _⟩,e3⟩,.cons rfl e4⟩;rcases List.mem_cons.mp hns with rfl | hns
   ·exact⟨p,hp,rfl⟩
   ·exact e2 ns hns
 obtain⟨nss,e1,e2,e3,e4⟩:=gen X1 prov;have nl:nss.length=X1.length:=by
  have:=congrArg List.length e1;simpa using this.symm
 have hperm:(nss.map tpI).Perm (ddp (pr.map fun q=>tpI q.1)):=by
  have e:(pr.map fun q=>tpI q.1)=(pr.map (·.1)).map tpI:=by rw[List.map_map];rfl
  rw[e];refine(List.perm_ext_iff_of_nodup ?_ z8z).mpr fun d=>?_
  ·have n1:(nss.map kyI).Nodup:=by
    rw[<-e1];exact((hX2.map (·.1)).nodup_iff).mpr hnd
   have n2:nss.Nodup:=(List.pairwise_map.mp n1).imp fun h z=>h (by rw[z]);exact List.pairwise_map.mpr (n2.imp fun h z=>h (z8Y z))
  ·rw[z2e];constructor
   ·intro hd;obtain⟨ns,hns,rfl⟩:=List.mem_map.mp hd;obtain⟨p,hp,rfl⟩:=e2 ns hns;exact List.mem_map.mpr ⟨_,List.mem_map.mpr ⟨p,hp,rfl⟩,rfl⟩
   ·intro hd;obtain⟨ns,hns,rfl⟩:=List.mem_map.mp hd;obtain⟨p,hp,rfl⟩:=List.mem_map.mp hns;obtain⟨x,hx,e⟩:=hp2 p hp
    have:x.1∈nss.map kyI:=by rw[<-e1];exact List.mem_map.mpr ⟨x,hX2.mem_iff.mpr hx,rfl⟩
    obtain⟨ms,hms,e'⟩:=List.mem_map.mp this;rw[e]at e';rw[<-z9E e'];exact List.mem_map.mpr ⟨_,hms,rfl⟩
 have srt:y6 (nss.map tpI)=true:=by
  unfold y6;rw[Bool.and_eq_true,Bool.or_eq_true];refine⟨.inr (List.all_eq_true.mpr fun d hd=>?_),decide_eq_true ?_⟩
  ·obtain⟨ns,hns,rfl⟩:=List.mem_map.mp hd;obtain⟨p,hp,rfl⟩:=e2 ns hns;have hne:=(hT p hp).2;simp only[xW,tpI,z21,Option.isSome_some,Bool.true_and];cases hp1:p.1 with
   | nil=>exact absurd hp1 hne
   | cons=>rfl
  ·have:=hX2.length_eq;simp;omega
 have hsz:es.size<1000:=by
  have:es.toList.length=X0.length:=by rw[he];simp
  rw[Array.length_toList]at this;omega
 have hsame:xI keyI (nss.map tpI)=xI keyI (ddp (pr.map fun q=>tpI q.1)):=yf ((yP _).trans (hperm.trans (yP _).symm)) (yO _) (yO _) fun a ha b hb hab=>by
  have sa:=(yP _).mem_iff.mp ha;have sb:=(yP _).mem_iff.mp hb;exact z32 srt a sa b sb hab
 refine xP I hS e3 e4 srt (fun Q' hq'=>?_) fun v H' sm dv=>q v H' sm (hsame▸dv);exact z7Z (A:=X.A.in1) (E:=X.xe) (I.ok.hd hc) hsz hG (Q:=Q') (fun h' tk k=>by rw[hX1];exact hq' h' tk k)
variable{K:W.Frag}{Er:Str->Hp->Prop}{a:Expr}{ma:Env'->Mx D}
theorem z4k{S:Addr->Prop}{H:Hp}:∀{ds:List PyData} {xs:List V},ds.all xW=true->DatsS S H ds xs->∃pr:List TuA,ds=(pr.map fun q=>tpI q.1)/\xs=(pr.map fun q=>V.ref q.2)/\∀q∈pr,H q.2=some (.tup (q.1.map V.int))/\q.1≠[]
 | [],xs,_,h=>by simp only[DatsS]at h;subst h;exact⟨[],rfl,rfl,fun _ h=>(nomatch h)⟩
 | d::ds,xs,ha,h=>by
  obtain⟨x,r,rfl,h1,h2⟩:=h;rw[List.all_cons,Bool.and_eq_true]at ha;obtain⟨pr,rfl,rfl,e3⟩:=z4k ha.2 h2;have a1:=ha.1;cases d<;>simp only[xW]at a1<;>try cases a1
  rename_i ts
  rw[Bool.and_eq_true]at a1;obtain⟨ns,en⟩:=Option.isSome_iff_exists.mp a1.1;simp only[DatS]at h1;obtain⟨b,ys,rfl,hA,dy⟩:=h1;have ey:=yd en dy;subst ey;have et:=yT en;subst et;refine⟨(ns,b)::pr,rfl,rfl,fun q hq=>?_⟩;rcases List.mem_cons.mp hq with rfl | hq
  ·refine⟨hA,fun z=>?_⟩;have z:ns=[]:=z;rw[z]at a1;simp at a1
  ·exact e3 q hq
theorem z2Q{p p2 pos pos2:Pos}(hc:X.calm=true)(hu:X.A.units+64<cLine)(hg1:Gl X "sorted")(hm1:X.mg "sorted"=none)(hv1:bootBuiltins "sorted"=some (.builtin "sorted"))(hg2:Gl X "set")(hm2:X.mg "set"=none)(hv2:bootBuiltins "set"=some (.type "set"))(ha:DW K Er X a ma)
  (hs:starEach [a] X.env=(false,eval a X.env)::starEach [] X.env:=by rfl):DE K Er X (.Call (.Name "sorted" p) [.Call (.Name "set" p2) [a] [] pos2] [] pos) (mUn xa ma):=
 (yB (z4O hc) hg1 hm1 hv1 (zW (xH (z4J hc hu) hg2 hm2 hv2 (zW ha pa_nil hs) (he:=hs)) pa_nil)).imp fun σ H Q h=>rd1 h (fun _ _ _ _ _ _ _ _ _ _ r=>r) fun g ow ρ n d v H0 H2 fr _ r q=>by
  obtain⟨z,e,q2⟩:=yk fr.twn q;obtain⟨x,rfl,e1⟩:=zf e;cases x<;>simp only[xa]at e1<;>try (cases e1;done)
  rename_i ds
  split at e1
  next hcond=>
   cases e1;rw[Bool.and_eq_true]at hcond;have h64:=of_decide_eq_true hcond.2;obtain⟨b,xs,rfl,g1,k1⟩:=ym (Rep1.d1 r);obtain⟨pr,rfl,rfl,hT⟩:=z4k hcond.1 k1;rw[List.length_map]at h64;refine⟨b,pr,rfl,SqL.of g1,fun q hq=>(hT q hq).1,h64,fun D' hD=>⟨D',pr,g.S ow,rfl,zG,fun q hq=>⟨?_,(hT q hq).2⟩,h64,fun c hcS=>?_,fun v H' s' dv=>q2 _ _ (fun b' o' e'=>s' _ _ (Same.new hD _ _ e')) dv⟩⟩
   ·rw[zI (fun z=>by have:=(hT q hq).1;rw[z,hD]at this;cases this)];exact(hT q hq).1
   ·intro z;by_cases hcD:c=D'
    ·subst hcD;rw[zG]at z;cases z
    ·rw[zI hcD]at z;exact fr.dom c hcS z
  next=>cases e1
end L2
namespace L2
open PySem
section
variable{P:Program}{w:World}{A:Around}{E:Value->Shared->Prop}{s:Shared}
theorem xM(s:Shared):s.TypeIs .none "NoneType":=rfl
noncomputable def hN:Int:=0xFCA86420
theorem xK{Q:Int->Shared->Prop}(h:Q hN { s with toks:=s.toks+1 }):wpAny (model P w) A (pyHash .none) Q E s:=by
 show wpAny _ _ (pyHashByItsType .none) Q E s;unfold pyHashByItsType;have hv:[Value.none].any Value.onHeap=false:=rfl;refine wpAny_bind ?_;rw[cRoomFor,if_neg (by rw[hv];exact Bool.false_ne_true)];refine wpAny_pure ?_;refine wpAny_bind (wpAny_specialOf (xM s) F.slot_NoneType_hash.lookup ?_);show wpAny _ _ (if (some (Value.builtin "NoneType.__hash__") == some Value.none)=true then _ else _) Q E s;rw[if_neg (by rw[beq_builtin_none];exact Bool.false_ne_true)];refine wpAny_bind (wpAny_specialOf (xM s) F.slot_NoneType_hash.lookup ?_);show wpAny _ _ (callSpecialIfBoundUnlessNone? .none "__hash__" _ >>= _) Q E s;refine wpAny_bind (wpAny_callSpecialIfBoundUnlessNone?_slot (xM s) F.slot_NoneType_hash
  (wpAny_call_entry F.slot_NoneType_hash (xM s) F.entry_NoneType_hash ?_ (F.args_NoneType_hash_1 _)))
 show wpAny _ _ (do ret (<-mkInt 0xFCA86420)) _ _ s;refine wpAny_ret_mkInt ?_;show wpAny _ _ (if (decide (-(2:Int) ^ 63<=hN) && decide (hN<2 ^ 63))=true then _ else _) Q E _;rw[if_pos (by decide)];exact wpAny_pure h
noncomputable abbrev NK:=Option (List Key)
noncomputable def isN(P:Program)(w:World)(h:Heap):NK->Value->Prop
 | none,v=>v=.none
 | some k,v=>∃a,v=.ref a/\(tk P w).is h k a/\intK k
noncomputable def hsN(P:Program)(w:World):NK->Int
 | none=>hN
 | some k=>(tk P w).hash k
noncomputable def drN(P:Program)(w:World):NK->Nat
 | none=>1
 | some k=>(tk P w).draws k
theorem zDD{k:NK}{v:Value}{Q:Int->Shared->Prop}(hu:A.units<cLine)(hk:isN P w s.heap k v)(h:Q (hsN P w k) { s with toks:=s.toks+drN P w k }):wpAny (model P w) A (pyHash v) Q E s:=by
 cases k with
 | none=>
  obtain rfl:v=.none:=hk;exact xK h
 | some k=>
  obtain⟨a,rfl,h1,_⟩:=hk;exact(tk P w).pyHash hu h1 h
theorem z9O{h:Heap}{x y:NK}{v:Value}(h1:isN P w h x v)(h2:isN P w h y v):x=y:=by
 cases x with
 | none=>
  cases y with
  | none=>rfl
  | some k=>
   obtain⟨a,e,_⟩:=h2;rw[show v=.none from h1]at e;cases e
 | some k=>
  obtain⟨a,e,k1,_⟩:=h1;cases y with
  | none=>
   rw[show v=.none from h2]at e;cases e
  | some k'=>
   obtain⟨b,e',k2,_⟩:=h2;rw[e]at e';cases e';rw[(tk P w).inj k1 k2]
theorem z1m{h:Heap}{k:List Key}{a:Addr}(hk:(tk P w).is h k a)(hi:intK k):∃ns:List Int,∃as,Reads h (.ref a) (.tuple (ns.map PyData.int)) as:=by
 obtain⟨o,items,n,ho,hc,hd,hit⟩:=(show IsTupleKey (zT P w) h k a from hk);have gen:∀{k:List Key} {vs:List Value},ItemsAre (zT P w) k vs->intK k->∃ns:List Int,∃as,ReadsAll h vs (ns.map PyData.int) as:=by
  intro k vs r
  induction r with
  | nil=>intro _;exact⟨[],_,.nil⟩
  | @cons q v ks vs hq t ih=>
   intro hk;obtain⟨i,rfl⟩:=hk q List.mem_cons_self;obtain⟨ns,as,ra⟩:=ih fun q hq=>hk q (List.mem_cons_of_mem _ hq);rcases zp (show z1t (.inl i) v=true from hq)with ⟨j,t,_,e⟩ | ⟨x,t,e,_⟩
   ·subst e;exact⟨j::ns,_,.cons (.int j t) ra⟩
   ·cases e
 obtain⟨ns,as,ra⟩:=gen hit hi;exact⟨ns,as,.tuple ho hc hd ra⟩
theorem z2S:∀ns:List Int,PyData.canLayAll0 (ns.map PyData.int)=true
 | []=>rfl
 | n::ns=>by simp[PyData.canLayAll0,z2S ns,PyData.canLay0]
theorem eqN{x y:NK}{u v:Value}{Q:Bool->Shared->Prop}(hu:A.units+8<cLine)(hx:isN P w s.heap x u)(hy:isN P w s.heap y v)(h:Q (decide (x=y)) s):wpAny (model P w) A (eqBool u v) Q E s:=by
 cases x with
 | none=>
  obtain rfl:u=.none:=hx;cases y with
  | none=>
   obtain rfl:v=.none:=hy;refine SeqAt.eqBoolOverData P w A E s .none .none .none .none [] [] Q .none .none rfl rfl (by simp[PyData.depth];omega) ?_;simpa[PyData.eqv]using h
  | some k=>
   obtain⟨a,rfl,h1,h2⟩:=hy;obtain⟨ns,as,ra⟩:=z1m h1 h2;refine SeqAt.eqBoolOverData P w A E s .none (.ref a) .none (.tuple (ns.map PyData.int)) [] as Q .none ra rfl (by simp only[PyData.canLay0];exact z2S ns) (by simp[PyData.depth];omega) ?_;simpa[PyData.eqv]using h
 | some k=>
  obtain⟨b,rfl,b1,b2⟩:=hx;cases y with
  | none=>
   obtain rfl:v=.none:=hy;obtain⟨ns,as,ra⟩:=z1m b1 b2;refine SeqAt.eqBoolOverData P w A E s (.ref b) .none (.tuple (ns.map PyData.int)) .none as [] Q ra .none (by simp only[PyData.canLay0];exact z2S ns) rfl (by simp[PyData.depth];omega) ?_;simpa[PyData.eqv]using h
  | some k'=>
   obtain⟨a,rfl,h1,h2⟩:=hy;refine(tk P w).eqBool (show A.units<cLine by omega) b1 h1 ?_;simpa using h
theorem z8f{x:NK}{u:Value}{Q:Bool->Shared->Prop}(hx:isN P w s.heap x u)(h:Q true s):wpAny (model P w) A (eqIsQuiet 8 u) Q E s:=by
 cases x with
 | none=>
  obtain rfl:u=.none:=hx;exact wpAny_pure h
 | some k=>
  obtain⟨b,rfl,b1,b2⟩:=hx;exact(tk P w).quiet b1 h
end
section
variable{P:Program}{w:World}{A:Around}{E:Value->Shared->Prop}{s:Shared}
noncomputable def entN(P:Program)(w:World)(x:NK×Value×Value):DictEntry:=⟨hsN P w x.1,x.2.1,x.2.2⟩
theorem wM{es:Array DictEntry}{xs:List (NK×Value×Value)}(he:es.toList=xs.map (entN P w))(j:Nat):es[j]?=(xs[j]?).map (entN P w):=by
 rw[<-Array.getElem?_toList,he,List.getElem?_map]
theorem z26{es:Array DictEntry}{xs:List (NK×Value×Value)}(he:es.toList=xs.map (entN P w)):es.size=xs.length:=by
 rw[<-Array.length_toList,he,List.length_map]
theorem idxN{xs:List (NK×Value×Value)}(hn:(xs.map (·.1)).Nodup){i j:Nat}{k:NK}{p q:Value×Value}(hi:xs[i]?=some (k,p))(hj:xs[j]?=some (k,q)):i=j:=by
 have hi':(xs.map (·.1))[i]?=some k:=by rw[List.getElem?_map,hi];rfl
 have hj':(xs.map (·.1))[j]?=some k:=by rw[List.getElem?_map,hj];rfl
 exact(List.getElem?_inj (List.getElem?_eq_some_iff.mp hi').1 hn).mp (hi'.trans hj'.symm)
variable{d:Addr}{o:Obj}{es:Array DictEntry}{ep:Nat}{xs:List (NK×Value×Value)}{k:NK}{key:Value}
theorem zC1{stored:List Value}{Q:Bool->Shared->Prop}(hkey:isN P w s.heap k key)(hst:∀v∈stored,∃k',isN P w s.heap k' v)(h:Q false s):wpAny (model P w) A (tableMayTell key stored) Q E s:=by
 unfold tableMayTell;split
 ·exact wpAny_pure h
 ·refine wpAny_bind (z8f hkey ?_);simp only[Bool.not_true,Bool.false_eq_true,if_false];refine wpAny_bind ?_;refine wpAny_forIn_list _ (fun rest r s'=>s'=s/\r=(none,())/\∀v∈rest,∃k',isN P w s.heap k' v) _ ?_ ?_ _ _ ⟨rfl,rfl,hst⟩
  ·rintro x rest r s' ⟨rfl,rfl,hr⟩;obtain⟨k',hb⟩:=hr x List.mem_cons_self;refine wpAny_bind (z8f hb ?_);simp only[Bool.not_true,Bool.false_eq_true,if_false];exact wpAny_pure ⟨rfl,rfl,fun v hv=>hr v (List.mem_cons_of_mem _ hv)⟩
  ·rintro r s' ⟨rfl,rfl,_⟩;exact wpAny_pure h
theorem zC8{Q:Option Nat->Shared->Prop}(hu:A.units+8<cLine)(hkey:isN P w s.heap k key)(ho:s.heap.get? d=some o)(hd:o.data=.dict es ep)(he:es.toList=xs.map (entN P w))(his:∀x∈xs,isN P w s.heap x.1 x.2.1)(hn:(xs.map (·.1)).Nodup)
    (hnone:(∀(j:Nat) (p:Value×Value),xs[j]?≠some (k,p))->Q none s) (hsome:∀(j:Nat) (p:Value×Value),xs[j]?=some (k,p)->Q (some j) s) :
    wpAny (model P w) A (dictFind d key (hsN P w k)) Q E s:=by
  have hsz:es.size=xs.length:=z26 he;have haskey:∀(j:Nat) (p:Value×Value),xs[j]?=some (k,p)->((es[j]?.map (·.hash)) == some (hsN P w k))=true:=by
    intro j p hj;rw[wM he j,hj];simp[entN]
  have hmem:∀e∈es,∃x∈xs,e=entN P w x:=by
    intro e hin
    have:e∈xs.map (entN P w):=he▸Array.mem_toList_iff.mpr hin;obtain⟨x,hx,rfl⟩:=List.mem_map.mp this;exact⟨x,hx,rfl⟩
  have hany:¬(es.any fun e=>e.key == key && e.hash != hsN P w k)=true:=by
    rw[<-Array.any_toList,List.any_eq_true];rintro⟨e,hin,hc⟩;obtain⟨x,hx,rfl⟩:=hmem e (Array.mem_toList_iff.mp hin);simp only[entN,Bool.and_eq_true,beq_iff_eq,bne_iff_ne,ne_eq]at hc;obtain⟨hxa,hne⟩:=hc
    have:=his x hx;rw[hxa]at this;exact hne (by rw[z9O this hkey])
  have hst:∀v∈(placesWithHash es.size (fun i=>es[i]?.map (·.hash)) (hsN P w k)).filterMap (fun i=>es[i]?.map (·.key)),∃k',isN P w s.heap k' v:=by
    intro v hv;obtain⟨i,_,hi⟩:=List.mem_filterMap.mp hv;cases hei:es[i]? with
    | none=>rw[hei]at hi;cases hi
    | some e=>
      rw[hei]at hi;obtain rfl:e.key=v:=by simpa using hi
      obtain⟨x,hx,rfl⟩:=hmem e (Array.mem_of_getElem? hei);exact⟨x.1,his x hx⟩
  have ns:∀z t,key≠.str z t:=fun z t e=>by
    cases k with
    | none=>rw[show key=.none from hkey]at e;cases e
    | some k=>obtain⟨a,e',_⟩:=hkey;rw[e']at e;cases e
  have step : ∀ {i x : Nat} {hit : Option Nat} {k' : NK} {v' vv : Value}, i <= x -> (∀ j, i <= j -> j < x -> ((es[j]?.map (·.hash)) == some (hsN P w k)) = false) -> xs[x]? = some (k', v', vv) -> ¬ k' = k ->
      ((hit=none/\∀j p,j<i->xs[j]?≠some (k,p))\/∃j p,hit=some j/\j<i/\xs[j]?=some (k,p))->((hit=none/\∀j p,j<x+1->xs[j]?≠some (k,p))\/∃j p,hit=some j/\j<x+1/\xs[j]?=some (k,p)):=by
    intro i x hit k' v' vv hix hskip hkv hne hH;rcases hH with ⟨h0,hno⟩ | ⟨j,p,h1,hji,hj⟩
    · refine .inl ⟨h0,fun j p hjx hj=>?_⟩;rcases Nat.lt_or_ge j i with h | h
      · exact hno j p h hj
      · rcases Nat.lt_or_ge j x with h' | h'
        · have:=hskip j h h';rw[haskey j p hj]at this;exact absurd this (by decide)
        · have:j=x:=by omega
          subst this;rw[hkv]at hj;injection hj with hj
          injection hj with hj
          exact hne hj
    · exact .inr ⟨j,p,h1,by omega,hj⟩
  have last:∀{i:Nat},((List.range' i (es.size - i)).filter (fun i=>(es[i]?.map (·.hash)) == some (hsN P w k)))=[]->(∀j p,j<i->xs[j]?≠some (k,p))->∀(j:Nat) (p:Value×Value),xs[j]?≠some (k,p):=by
    intro i hr hno j p hj;rcases Nat.lt_or_ge j i with h | h
    · exact hno j p h hj
    · have hjl : j < es.size := by
        rw[hsz];rcases Nat.lt_or_ge j xs.length with h' | h'
        · exact h'
        · rw[List.getElem?_eq_none h']at hj;exact nomatch hj
      have:=List.filter_eq_nil_iff.mp hr j (List.mem_range'_1.mpr ⟨h,by omega⟩);exact this (haskey j p hj)
  unfold dictFind
  try with_reducible refine wpAny_holding ?_
  refine wpAny_bind (wpAny_dictEntries ho hd ?_);have kc:(∃a,key=.ref a)\/key=.none:=by
    cases k with
    | none=>exact .inr hkey
    | some k=>obtain⟨a,e,_⟩:=hkey;exact .inl ⟨a,e⟩
  rcases kc with ⟨a,rfl⟩ | rfl
  · dsimp only;rw[if_neg (show ¬((Value.ref a::((placesWithHash es.size (fun i=>es[i]?.map (·.hash)) (hsN P w k)).filterMap (fun i=>es[i]?.map (·.key)))).all carriedByValue)=true by simp[carriedByValue])];rw[if_neg hany];by_cases hone:(((placesWithHash es.size (fun i=>es[i]?.map (·.hash)) (hsN P w k)).filterMap (fun i=>es[i]?.map (·.key))) == [Value.ref a])=true
    · rw[if_pos hone];refine wpAny_bind (wpAny_pure ?_);rw[if_neg (by simp)];refine wpAny_bind ?_;refine wpAny_forIn_list _
        (fun rest b s' => s' = s /\ ∃ i hit, b = (none, hit) /\ rest = (List.range' i (es.size - i)).filter (fun i => (es[i]?.map (·.hash)) == some (hsN P w k)) /\ i <= es.size /\
              ((hit=none/\∀j p,j<i->xs[j]?≠some (k,p))\/∃j p,hit=some j/\j<i/\xs[j]?=some (k,p))) _ ?_ ?_ _ _
        ⟨rfl,0,none,rfl,by rw[placesWithHash,List.range_eq_range',Nat.sub_zero],Nat.zero_le _,.inl ⟨rfl,fun _ _ h=>absurd h (Nat.not_lt_zero _)⟩⟩
      · rintro x rest b s' ⟨rfl,i,hit,rfl,hr,hi,hH⟩;obtain⟨hix,hxn,hpx,hskip,hrest⟩:=filter_range'_cons _ _ _ _ _ hr.symm;have hlt:x<es.size:=by omega
        have hrest':rest=(List.range' (x+1) (es.size - (x+1))).filter (fun i=>(es[i]?.map (·.hash)) == some (hsN P w k)):=by rw[hrest];congr 2;omega
        obtain⟨⟨k',v0,v'⟩,hkv⟩:∃y,xs[x]?=some y:=⟨xs[x]'(by rw[<-hsz];exact hlt),List.getElem?_eq_getElem _⟩;have hib:isN P w s'.heap k' v0:=his _ (List.mem_of_getElem? hkv);have hex:es[x]?=some ⟨hsN P w k',v0,v'⟩:=by rw[wM he x,hkv];rfl
        rw[hex];dsimp only;by_cases hh:(hsN P w k' == hsN P w k)=true
        · rw[if_pos hh];refine wpAny_bind (wpAny_dictEpoch ho hd (wpAny_bind (eqN (x:=k') (y:=k) hu hib hkey (wpAny_bind (wpAny_dictEpoch ho hd ?_)))));show wpAny _ _ (if (ep != ep)=true then _ else _) _ E _;rw[if_neg (by simp)];by_cases hkk:k'=k
          · rw[decide_eq_true hkk];have hkv':xs[x]?=some (k,v0,v'):=hkk▸hkv;rcases hH with ⟨rfl,_⟩ | ⟨j,p,_,hjx,hj⟩
            · first | rw[if_pos rfl] | skip
              simp only[Option.isSome_none,Bool.false_eq_true,if_false]
              first | refine wpAny_bind (wpAny_pure ?_) | skip
              refine wpAny_bind (wpAny_rule ?_);split
              · exact wpAny_pure (wpAny_pure (hsome x _ hkv'))
              · exact wpAny_pure ⟨rfl,x+1,some x,rfl,hrest',hlt,.inr ⟨x,_,rfl,Nat.lt_succ_self x,hkv'⟩⟩
            · exact absurd (idxN hn hj hkv') (by omega)
          · rw[decide_eq_false hkk];simp only[Bool.false_eq_true,if_false];refine wpAny_bind (wpAny_rule ?_)
            first | rw[if_neg (by simp)] | skip
            first
              | exact wpAny_pure ⟨rfl,x+1,hit,rfl,hrest',hlt,step hix hskip hkv hkk hH⟩
              | exact wpAny_bind (wpAny_pure (wpAny_pure ⟨rfl,x+1,hit,rfl,hrest',hlt,step hix hskip hkv hkk hH⟩))
        · rw[if_neg hh];refine wpAny_pure ⟨rfl,x+1,hit,rfl,hrest',hlt,step hix hskip hkv (fun hkk=>?_) hH⟩;rw[hkk]at hh;simp at hh
      · rintro b s' ⟨rfl,i,hit,rfl,hr,hi,hH⟩;rcases hH with ⟨rfl,hno⟩ | ⟨j,p,rfl,_,hj⟩
        · exact wpAny_pure (hnone (last hr.symm hno))
        · exact wpAny_pure (hsome j p hj)
    · rw[if_neg hone];refine wpAny_bind (zC1 hkey hst ?_);rw[if_neg (by simp)];refine wpAny_bind ?_;refine wpAny_forIn_list _
        (fun rest b s' => s' = s /\ ∃ i hit, b = (none, hit) /\ rest = (List.range' i (es.size - i)).filter (fun i => (es[i]?.map (·.hash)) == some (hsN P w k)) /\ i <= es.size /\
              ((hit=none/\∀j p,j<i->xs[j]?≠some (k,p))\/∃j p,hit=some j/\j<i/\xs[j]?=some (k,p))) _ ?_ ?_ _ _
        ⟨rfl,0,none,rfl,by rw[placesWithHash,List.range_eq_range',Nat.sub_zero],Nat.zero_le _,.inl ⟨rfl,fun _ _ h=>absurd h (Nat.not_lt_zero _)⟩⟩
      · rintro x rest b s' ⟨rfl,i,hit,rfl,hr,hi,hH⟩;obtain⟨hix,hxn,hpx,hskip,hrest⟩:=filter_range'_cons _ _ _ _ _ hr.symm;have hlt:x<es.size:=by omega
        have hrest':rest=(List.range' (x+1) (es.size - (x+1))).filter (fun i=>(es[i]?.map (·.hash)) == some (hsN P w k)):=by rw[hrest];congr 2;omega
        obtain⟨⟨k',v0,v'⟩,hkv⟩:∃y,xs[x]?=some y:=⟨xs[x]'(by rw[<-hsz];exact hlt),List.getElem?_eq_getElem _⟩;have hib:isN P w s'.heap k' v0:=his _ (List.mem_of_getElem? hkv);have hex:es[x]?=some ⟨hsN P w k',v0,v'⟩:=by rw[wM he x,hkv];rfl
        rw[hex];dsimp only;by_cases hh:(hsN P w k' == hsN P w k)=true
        · rw[if_pos hh];refine wpAny_bind (wpAny_dictEpoch ho hd (wpAny_bind (eqN (x:=k') (y:=k) hu hib hkey (wpAny_bind (wpAny_dictEpoch ho hd ?_)))));show wpAny _ _ (if (ep != ep)=true then _ else _) _ E _;rw[if_neg (by simp)];by_cases hkk:k'=k
          · rw[decide_eq_true hkk];have hkv':xs[x]?=some (k,v0,v'):=hkk▸hkv;rcases hH with ⟨rfl,_⟩ | ⟨j,p,_,hjx,hj⟩
            · first | rw[if_pos rfl] | skip
              simp only[Option.isSome_none,Bool.false_eq_true,if_false]
              first | refine wpAny_bind (wpAny_pure ?_) | skip
              refine wpAny_bind (wpAny_rule ?_);split
              · exact wpAny_pure (wpAny_pure (hsome x _ hkv'))
              · exact wpAny_pure ⟨rfl,x+1,some x,rfl,hrest',hlt,.inr ⟨x,_,rfl,Nat.lt_succ_self x,hkv'⟩⟩
            · exact absurd (idxN hn hj hkv') (by omega)
          · rw[decide_eq_false hkk];simp only[Bool.false_eq_true,if_false];refine wpAny_bind (wpAny_rule ?_)
            first | rw[if_neg (by simp)] | skip
            first
              | exact wpAny_pure ⟨rfl,x+1,hit,rfl,hrest',hlt,step hix hskip hkv hkk hH⟩
              | exact wpAny_bind (wpAny_pure (wpAny_pure ⟨rfl,x+1,hit,rfl,hrest',hlt,step hix hskip hkv hkk hH⟩))
        · rw[if_neg hh];refine wpAny_pure ⟨rfl,x+1,hit,rfl,hrest',hlt,step hix hskip hkv (fun hkk=>?_) hH⟩;rw[hkk]at hh;simp at hh
      · rintro b s' ⟨rfl,i,hit,rfl,hr,hi,hH⟩;rcases hH with ⟨rfl,hno⟩ | ⟨j,p,rfl,_,hj⟩
        · exact wpAny_pure (hnone (last hr.symm hno))
        · exact wpAny_pure (hsome j p hj)
  · dsimp only;by_cases hc:((Value.none::((placesWithHash es.size (fun i=>es[i]?.map (·.hash)) (hsN P w k)).filterMap (fun i=>es[i]?.map (·.key)))).all carriedByValue)=true
    · rw[if_pos hc];unfold dictWalkPlain;refine wpAny_bind ?_;refine wpAny_forIn_list _
        (fun rest b s'=>s'=s/\∃i,b=(none,())/\rest=(List.range' i (es.size - i)).filter (fun i=>(es[i]?.map (·.hash)) == some (hsN P w k))/\i<=es.size/\∀j p,j<i->xs[j]?≠some (k,p)) _ ?_ ?_ _ _
        ⟨rfl,0,rfl,by rw[placesWithHash,List.range_eq_range',Nat.sub_zero],Nat.zero_le _,fun _ _ h=>absurd h (Nat.not_lt_zero _)⟩
      · rintro x rest b s' ⟨rfl,i,rfl,hr,hi,hH⟩;obtain⟨hix,hxn,hpx,hskip,hrest⟩:=filter_range'_cons _ _ _ _ _ hr.symm;have hlt:x<es.size:=by omega
        have hrest':rest=(List.range' (x+1) (es.size - (x+1))).filter (fun i=>(es[i]?.map (·.hash)) == some (hsN P w k)):=by rw[hrest];congr 2;omega
        obtain⟨⟨k',v0,v'⟩,hkv⟩:∃y,xs[x]?=some y:=⟨xs[x]'(by rw[<-hsz];exact hlt),List.getElem?_eq_getElem _⟩;have hib:isN P w s'.heap k' v0:=his _ (List.mem_of_getElem? hkv);have hex:es[x]?=some ⟨hsN P w k',v0,v'⟩:=by rw[wM he x,hkv];rfl
        have st:¬k'=k->∀j p,j<x+1->xs[j]?≠some (k,p):=fun hne=>by
          rcases step (hit:=none) hix hskip hkv hne (.inl ⟨rfl,hH⟩)with ⟨_,z⟩ | ⟨_,_,z,_⟩
          · exact z
          · cases z
        rw[hex];dsimp only;by_cases hh:(hsN P w k' == hsN P w k)=true
        · rw[if_pos hh];refine wpAny_bind (wpAny_dictEpoch ho hd (wpAny_bind (eqN (x:=k') (y:=k) hu hib hkey (wpAny_bind (wpAny_dictEpoch ho hd ?_)))));show wpAny _ _ (if (ep != ep)=true then _ else _) _ E _;rw[if_neg (by simp)];by_cases hkk:k'=k
          · rw[decide_eq_true hkk];have hkv':xs[x]?=some (k,v0,v'):=hkk▸hkv
            first | rw[if_pos rfl] | skip
            refine wpAny_bind (wpAny_rule ?_);exact wpAny_pure (wpAny_pure (hsome x _ hkv'))
          · rw[decide_eq_false hkk];simp only[Bool.false_eq_true,if_false];refine wpAny_bind (wpAny_rule ?_);exact wpAny_pure ⟨rfl,x+1,rfl,hrest',hlt,st hkk⟩
        · rw[if_neg hh];refine wpAny_pure ⟨rfl,x+1,rfl,hrest',hlt,st fun hkk=>?_⟩;rw[hkk]at hh;simp at hh
      · rintro b s' ⟨rfl,i,rfl,hr,hi,hH⟩;exact wpAny_pure (hnone (last hr.symm hH))
    · rw[if_neg hc];by_cases hone:(((placesWithHash es.size (fun i=>es[i]?.map (·.hash)) (hsN P w k)).filterMap (fun i=>es[i]?.map (·.key))) == [Value.none])=true
      · rw[if_pos hone];refine wpAny_bind (wpAny_pure ?_);rw[if_neg (by simp)];refine wpAny_bind ?_;refine wpAny_forIn_list _
          (fun rest b s' => s' = s /\ ∃ i hit, b = (none, hit) /\ rest = (List.range' i (es.size - i)).filter (fun i => (es[i]?.map (·.hash)) == some (hsN P w k)) /\ i <= es.size /\
                ((hit=none/\∀j p,j<i->xs[j]?≠some (k,p))\/∃j p,hit=some j/\j<i/\xs[j]?=some (k,p))) _ ?_ ?_ _ _
          ⟨rfl,0,none,rfl,by rw[placesWithHash,List.range_eq_range',Nat.sub_zero],Nat.zero_le _,.inl ⟨rfl,fun _ _ h=>absurd h (Nat.not_lt_zero _)⟩⟩
        · rintro x rest b s' ⟨rfl,i,hit,rfl,hr,hi,hH⟩;obtain⟨hix,hxn,hpx,hskip,hrest⟩:=filter_range'_cons _ _ _ _ _ hr.symm;have hlt:x<es.size:=by omega
          have hrest':rest=(List.range' (x+1) (es.size - (x+1))).filter (fun i=>(es[i]?.map (·.hash)) == some (hsN P w k)):=by rw[hrest];congr 2;omega
          obtain⟨⟨k',v0,v'⟩,hkv⟩:∃y,xs[x]?=some y:=⟨xs[x]'(by rw[<-hsz];exact hlt),List.getElem?_eq_getElem _⟩;have hib:isN P w s'.heap k' v0:=his _ (List.mem_of_getElem? hkv);have hex:es[x]?=some ⟨hsN P w k',v0,v'⟩:=by rw[wM he x,hkv];rfl
          rw[hex];dsimp only;by_cases hh:(hsN P w k' == hsN P w k)=true
          · rw[if_pos hh];refine wpAny_bind (wpAny_dictEpoch ho hd (wpAny_bind (eqN (x:=k') (y:=k) hu hib hkey (wpAny_bind (wpAny_dictEpoch ho hd ?_)))));show wpAny _ _ (if (ep != ep)=true then _ else _) _ E _;rw[if_neg (by simp)];by_cases hkk:k'=k
            · rw[decide_eq_true hkk];have hkv':xs[x]?=some (k,v0,v'):=hkk▸hkv;rcases hH with ⟨rfl,_⟩ | ⟨j,p,_,hjx,hj⟩
              · first | rw[if_pos rfl] | skip
                simp only[Option.isSome_none,Bool.false_eq_true,if_false]
                first | refine wpAny_bind (wpAny_pure ?_) | skip
                refine wpAny_bind (wpAny_rule ?_);split
                · exact wpAny_pure (wpAny_pure (hsome x _ hkv'))
                · exact wpAny_pure ⟨rfl,x+1,some x,rfl,hrest',hlt,.inr ⟨x,_,rfl,Nat.lt_succ_self x,hkv'⟩⟩
              · exact absurd (idxN hn hj hkv') (by omega)
            · rw[decide_eq_false hkk];simp only[Bool.false_eq_true,if_false];refine wpAny_bind (wpAny_rule ?_)
              first | rw[if_neg (by simp)] | skip
              first
                | exact wpAny_pure ⟨rfl,x+1,hit,rfl,hrest',hlt,step hix hskip hkv hkk hH⟩
                | exact wpAny_bind (wpAny_pure (wpAny_pure ⟨rfl,x+1,hit,rfl,hrest',hlt,step hix hskip hkv hkk hH⟩))
          · rw[if_neg hh];refine wpAny_pure ⟨rfl,x+1,hit,rfl,hrest',hlt,step hix hskip hkv (fun hkk=>?_) hH⟩;rw[hkk]at hh;simp at hh
        · rintro b s' ⟨rfl,i,hit,rfl,hr,hi,hH⟩;rcases hH with ⟨rfl,hno⟩ | ⟨j,p,rfl,_,hj⟩
          · exact wpAny_pure (hnone (last hr.symm hno))
          · exact wpAny_pure (hsome j p hj)
      · rw[if_neg hone];refine wpAny_bind (zC1 hkey hst ?_);rw[if_neg (by simp)];refine wpAny_bind ?_;refine wpAny_forIn_list _
          (fun rest b s' => s' = s /\ ∃ i hit, b = (none, hit) /\ rest = (List.range' i (es.size - i)).filter (fun i => (es[i]?.map (·.hash)) == some (hsN P w k)) /\ i <= es.size /\
                ((hit=none/\∀j p,j<i->xs[j]?≠some (k,p))\/∃j p,hit=some j/\j<i/\xs[j]?=some (k,p))) _ ?_ ?_ _ _
          ⟨rfl,0,none,rfl,by rw[placesWithHash,List.range_eq_range',Nat.sub_zero],Nat.zero_le _,.inl ⟨rfl,fun _ _ h=>absurd h (Nat.not_lt_zero _)⟩⟩
        · rintro x rest b s' ⟨rfl,i,hit,rfl,hr,hi,hH⟩;obtain⟨hix,hxn,hpx,hskip,hrest⟩:=filter_range'_cons _ _ _ _ _ hr.symm;have hlt:x<es.size:=by omega
          have hrest':rest=(List.range' (x+1) (es.size - (x+1))).filter (fun i=>(es[i]?.map (·.hash)) == some (hsN P w k)):=by rw[hrest];congr 2;omega
          obtain⟨⟨k',v0,v'⟩,hkv⟩:∃y,xs[x]?=some y:=⟨xs[x]'(by rw[<-hsz];exact hlt),List.getElem?_eq_getElem _⟩;have hib:isN P w s'.heap k' v0:=his _ (List.mem_of_getElem? hkv);have hex:es[x]?=some ⟨hsN P w k',v0,v'⟩:=by rw[wM he x,hkv];rfl
          rw[hex];dsimp only;by_cases hh:(hsN P w k' == hsN P w k)=true
          · rw[if_pos hh];refine wpAny_bind (wpAny_dictEpoch ho hd (wpAny_bind (eqN (x:=k') (y:=k) hu hib hkey (wpAny_bind (wpAny_dictEpoch ho hd ?_)))));show wpAny _ _ (if (ep != ep)=true then _ else _) _ E _;rw[if_neg (by simp)];by_cases hkk:k'=k
            · rw[decide_eq_true hkk];have hkv':xs[x]?=some (k,v0,v'):=hkk▸hkv;rcases hH with ⟨rfl,_⟩ | ⟨j,p,_,hjx,hj⟩
              · first | rw[if_pos rfl] | skip
                simp only[Option.isSome_none,Bool.false_eq_true,if_false]
                first | refine wpAny_bind (wpAny_pure ?_) | skip
                refine wpAny_bind (wpAny_rule ?_);split
                · exact wpAny_pure (wpAny_pure (hsome x _ hkv'))
                · exact wpAny_pure ⟨rfl,x+1,some x,rfl,hrest',hlt,.inr ⟨x,_,rfl,Nat.lt_succ_self x,hkv'⟩⟩
              · exact absurd (idxN hn hj hkv') (by omega)
            · rw[decide_eq_false hkk];simp only[Bool.false_eq_true,if_false];refine wpAny_bind (wpAny_rule ?_)
              first | rw[if_neg (by simp)] | skip
              first
                | exact wpAny_pure ⟨rfl,x+1,hit,rfl,hrest',hlt,step hix hskip hkv hkk hH⟩
                | exact wpAny_bind (wpAny_pure (wpAny_pure ⟨rfl,x+1,hit,rfl,hrest',hlt,step hix hskip hkv hkk hH⟩))
          · rw[if_neg hh];refine wpAny_pure ⟨rfl,x+1,hit,rfl,hrest',hlt,step hix hskip hkv (fun hkk=>?_) hH⟩;rw[hkk]at hh;simp at hh
        · rintro b s' ⟨rfl,i,hit,rfl,hr,hi,hH⟩;rcases hH with ⟨rfl,hno⟩ | ⟨j,p,rfl,_,hj⟩
          · exact wpAny_pure (hnone (last hr.symm hno))
          · exact wpAny_pure (hsome j p hj)
end
section
variable{P:Program}{w:World}{A:Around}{E:Value->Shared->Prop}{s:Shared}{d:Addr}{xs:List (NK×Value×Value)}{k:NK}{key:Value}
def MDict(P:Program)(w:World)(h:Heap)(d:Addr)(xs:List (NK×Value×Value)):Prop:=∃o es ep,h.get? d=some o/\o.ExactDict/\o.data=.dict es ep/\es.toList=xs.map (entN P w)/\(xs.map (·.1)).Nodup
theorem MDict.typeIs(hm:MDict P w s.heap d xs):s.TypeIs (.ref d) "dict":=let⟨o,_,_,ho,hc,_⟩:=hm;⟨o,ho,hc.1⟩
theorem getN{Q:Option Value->Shared->Prop}(hu:A.units+8<cLine)(hkey:isN P w s.heap k key)(hm:MDict P w s.heap d xs)(his:∀x∈xs,isN P w s.heap x.1 x.2.1)
  (h1:(∀(j:Nat) (p:Value×Value),xs[j]?≠some (k,p))->Q none { s with toks:=s.toks+drN P w k }) (h2:∀(j:Nat) (p:Value×Value),xs[j]?=some (k,p)->Q (some p.2) { s with toks:=s.toks+drN P w k }):wpAny (model P w) A (dictGet d key) Q E s:=by
 obtain⟨o,es,ep,ho,_,hd,he,hn⟩:=hm;unfold dictGet
 try with_reducible refine wpAny_holding ?_
 refine wpAny_bind (zDD (show A.units<cLine by omega) hkey (wpAny_bind (zC8 (s:={ s with toks:=s.toks+drN P w k }) hu hkey ho hd he his hn ?_ ?_)))
 ·intro hno;exact wpAny_pure (h1 hno)
 ·intro j p hj;refine wpAny_bind (wpAny_dictEntries (s:={ s with toks:=s.toks+drN P w k }) ho hd ?_);rw[wM he j,hj];exact wpAny_pure (h2 j p hj)
theorem inN{Q:Value->Shared->Prop}(hu:A.units+9<cLine)(hds:(d == sysModules)=false)(hkey:isN P w s.heap k key)(hm:MDict P w s.heap d xs)(his:∀x∈xs,isN P w s.heap x.1 x.2.1)
  (h:Q (.bool (xs.any fun x=>decide (x.1=k))) { s with toks:=s.toks+drN P w k }):wpAny (model P w) A (compareOp .In key (.ref d)) Q E s:=by
 show wpAny _ _ (do return .bool (<-contains (.ref d) key)) Q E s;refine wpAny_bind ?_;unfold contains
 try with_reducible refine wpAny_holding ?_
 refine wpAny_bind (wpAny_specialOf hm.typeIs slot_dict_contains.lookup ?_);show wpAny _ _ (if (some (Value.builtin "dict.__contains__") == some Value.none)=true then _ else _) _ E s;rw[if_neg (by rw[beq_builtin_none];exact Bool.false_ne_true)];refine wpAny_bind (wpAny_callSpecialUnlessNone?_slot (name:=Str.ofString "__contains__") hm.typeIs slot_dict_contains
  (wpAny_call_entry slot_dict_contains hm.typeIs entry_dict_contains ?_ (args_dict_contains _ _)))
 show wpAny _ _ (dictGet d key >>= _) _ _ s;have hu1:A.in1.units+8<cLine:=by have:A.in1.units=A.units+1:=rfl;omega
 refine wpAny_bind (getN hu1 hkey hm his (fun hno=>?_) fun j p hj=>?_)
 ·have:k∉xs.map (·.1):=fun hmm=>by
   obtain⟨x,hx,e⟩:=List.mem_map.mp hmm;obtain⟨j,hj⟩:=List.mem_iff_getElem?.mp hx;exact hno j x.2 (by rw[hj,<-e])
  have e:(xs.any fun x=>decide (x.1=k))=false:=List.any_eq_false.mpr fun x hx z=>this (List.mem_map.mpr ⟨x,hx,of_decide_eq_true z⟩);rw[e]at h;show wpAny _ _ (Builtin.Dict.pendingKey? d key >>= _) _ _ _;exact wpAny_bind (wpAny_pendingKey_other hds (wpAny_pure ⟨_,rfl,wpAny_truthy_bool (wpAny_pure h)⟩))
 ·have:k∈xs.map (·.1):=List.mem_map.mpr ⟨(k,p),List.mem_of_getElem? hj,rfl⟩;have e:(xs.any fun x=>decide (x.1=k))=true:=by
   obtain⟨x,hx,e⟩:=List.mem_map.mp this;exact List.any_eq_true.mpr ⟨x,hx,decide_eq_true e⟩
  rw[e]at h;show wpAny _ _ (ret (.bool true)) _ _ _;exact wpAny_pure ⟨_,rfl,wpAny_truthy_bool (wpAny_pure h)⟩
theorem setN{v:Value}{Q:Unit->Shared->Prop}(hu:A.units+9<cLine)(hm:MDict P w s.heap d xs)(his:∀x∈xs,isN P w s.heap x.1 x.2.1)(hno:none∉xs.map (·.1))(hz:xs.length<=sizeLine)
  (hQ:∀h',MDict P w h' d (xs++[(none,.none,v)])->Heap.SameBut d s.heap h'->Q () { s with heap:=h',toks:=s.toks+1 }):wpAny (model P w) A (setItem (.ref d) .none v) Q E s:=by
 unfold setItem
 try with_reducible refine wpAny_holding ?_
 refine wpAny_bind (wpAny_sequenceKey hm.typeIs (by decide) ?_);refine wpAny_bind (wpAny_callSpecial?_slot (name:=Str.ofString "__setitem__") hm.typeIs slot_dict_setitem
  (wpAny_call_entry slot_dict_setitem hm.typeIs entry_dict_setitem ?_ (args_dict_setitem _ _ _)))
 show wpAny _ _ (Builtin.Dict.notOrdered "__setitem__" ⟨[.ref d,.none,v],[]⟩ >>= _) _ _ s;refine wpAny_bind (wpAny_notOrdered_dict hm.typeIs ?_);show wpAny _ _ (dictSet d .none v >>= _) _ _ s;obtain⟨o,es,ep,ho,hc,hd,he,hn⟩:=hm;have hu1:A.in1.units+8<cLine:=by have:A.in1.units=A.units+1:=rfl;omega
 have hkey:isN P w s.heap none .none:=rfl;refine wpAny_bind ?_;unfold dictSet
 try with_reducible refine wpAny_holding ?_
 refine wpAny_bind (xK ?_);unfold dictSetHashed
 try with_reducible refine wpAny_holding ?_
 refine wpAny_bind (zC8 (k:=none) (s:={ s with toks:=s.toks+1 }) hu1 hkey ho hd he his hn ?_ ?_)
 ·intro hno';refine wpAny_bind (wpAny_rule (wpAny_updateDictKeys (hz:=by have e:=z26 he;omega) (s:={ s with toks:=s.toks+1 }) ho hd (wpAny_pure ⟨.none,rfl,wpAny_pure (hQ _ ⟨_,_,ep+1,Heap.get?_update_self _ ho (Obj.isFreed_of_dict (Obj.data_mapDictKeys hd _)),hc.mapDictKeys _,Obj.data_mapDictKeys hd _,?_,?_⟩ (Heap.SameBut.update ..))⟩)))
  ·simp[he,entN,hsN]
  ·rw[List.map_append,List.nodup_append];refine⟨hn,by simp,?_⟩;intro x hx y hy;simp only[List.map_cons,List.map_nil,List.mem_singleton]at hy;subst hy;exact fun e=>hno (e▸hx)
 ·intro j p hj;exact absurd (List.mem_map.mpr ⟨(none,p),List.mem_of_getElem? hj,rfl⟩) hno
theorem z6x{ys:List (List Key×Addr×Value)}(hm:s.heap.DictOfH (tk P w) d ys):MDict P w s.heap d (ys.map fun y=>(some y.1,.ref y.2.1,y.2.2)):=by
 obtain⟨o,es,ep,ho,hc,hd,he,_,hn⟩:=hm;refine⟨o,es,ep,ho,hc,hd,?_,?_⟩
 ·rw[he,List.map_map];rfl
 ·rw[List.map_map]
  have:(ys.map ((fun x:NK×Value×Value=>x.1)∘fun y=>(some y.1,Value.ref y.2.1,y.2.2)))=(ys.map (·.1)).map some:=by rw[List.map_map];rfl
  rw[this];exact List.pairwise_map.mpr (hn.imp fun h z=>h (Option.some.inj z))
end
open PySem PySem.Spec PyProof.Rows
section
variable{P:Program}{w:World}{X:Cx}{pins:List (Addr×Obj)}{s:Shared}{σ:L2.St}{H:Hp}{a:Addr}{A:Around}{E:Value->Shared->Prop}
noncomputable def hsI(ns:List Int):Int:=reduceHash (Builtin.Tuple.tupleHashOf (ns.map hashInt))
theorem zBP(P:Program)(w:World)(ns:List Int):(tupleKind (zT P w)).hash (ns.map Sum.inl)=hsI ns:=by
 show tupleKeyHash (zT P w) (ns.map Sum.inl)=_;unfold tupleKeyHash hsI;rw[List.map_map];rfl
noncomputable def nxs(bs:List (List Int×Addr)):List (NK×Value×Value):=(bs.map fun q=>(some (q.1.map Sum.inl),Value.ref q.2,Value.bool true))++[(none,.none,.bool true)]
theorem z7o{bs:List (List Int×Addr)}{h:Heap}(n:z1Z a bs h):MDict P w h a (nxs bs)/\(a == sysModules)=false:=by
 obtain⟨hs,o,es,ep,e1,ho,hc,hd,he,hn,hsy⟩:=n;refine⟨⟨o,es,ep,ho,hc,hd,?_,?_⟩,hsy⟩
 ·rw[he];unfold nxs;rw[List.map_append,List.map_map];congr 1
  ·refine List.map_congr_left fun q _=>?_;show(⟨hs q.1,.ref q.2,.bool true⟩:DictEntry)=⟨(tk P w).hash (q.1.map Sum.inl),.ref q.2,.bool true⟩;rw[show(tk P w).hash (q.1.map Sum.inl)=hs q.1 from e1 P w q.1]
 ·unfold nxs;rw[List.map_append,List.map_map];refine List.nodup_append.mpr ⟨?_,by simp,fun x hx y hy z=>?_⟩
  ·have:(bs.map ((fun x:NK×Value×Value=>x.1)∘fun q=>(some (q.1.map Sum.inl),Value.ref q.2,Value.bool true)))=(bs.map (·.1)).map (fun ns:List Int=>(some (ns.map Sum.inl):NK)):=by rw[List.map_map];rfl
   rw[this];refine List.pairwise_map.mpr (hn.imp fun{x y} hxy z=>hxy ?_);have z:=Option.some.inj z
   have:(x.map (Sum.inl:Int->Key)).map (fun k:Key=>match k with | .inl i=>i | .inr _=>0)=(y.map (Sum.inl:Int->Key)).map (fun k:Key=>match k with | .inl i=>i | .inr _=>0):=by rw[z]
   simpa[List.map_map,Function.comp_def]using this
  ·obtain⟨q,_,rfl⟩:=List.mem_map.mp hx;simp at hy;subst hy;cases z
theorem z0r{bs:List (List Int×Addr)}(I:L2.Inv X pins σ H s)(hb:∀q∈bs,H q.2=some (.tup (q.1.map V.int))):∀x∈nxs bs,isN X.prog X.w s.heap x.1 x.2.1:=by
 intro x hx;rcases List.mem_append.mp hx with hx | hx
 ·obtain⟨q,hq,rfl⟩:=List.mem_map.mp hx;refine⟨q.2,rfl,wA I.hok ?_,fun k hk=>?_⟩
  ·rw[hb q hq];simp[List.map_map,Function.comp_def,kV]
  ·obtain⟨n,_,rfl⟩:=List.mem_map.mp hk;exact⟨n,rfl⟩
 ·simp at hx;subst hx;rfl
theorem z9K(bs:List (List Int×Addr))(ns:List Int):((nxs bs).any fun x=>decide (x.1=some (ns.map Sum.inl)))=bs.any fun q=>decide (q.1=ns):=by
 unfold nxs;rw[List.any_append];simp only[List.any_map,List.any_cons,List.any_nil,Bool.or_false,Function.comp_def];rw[show decide ((none:NK)=some (ns.map Sum.inl))=false from decide_eq_false (fun z=>by cases z),Bool.or_false];congr 1;funext q;refine decide_eq_decide.mpr ⟨fun z=>?_,fun z=>by rw[z]⟩;have z:=Option.some.inj z
 have:(q.1.map (Sum.inl:Int->Key)).map (fun k:Key=>match k with | .inl i=>i | .inr _=>0)=(ns.map (Sum.inl:Int->Key)).map (fun k:Key=>match k with | .inl i=>i | .inr _=>0):=by rw[z]
 simpa[List.map_map,Function.comp_def]using this
noncomputable def rInN:R2:=fun x y H Q=>∃a bs,y=.ref a/\H a=some (.ext (z1Z a bs))/\(∀q∈bs,H q.2=some (.tup (q.1.map V.int)))/\((x=.non/\Q (.bl true) H)\/∃b ns,x=.ref b/\H b=some (.tup (ns.map V.int))/\Q (.bl (bs.any fun q=>decide (q.1=ns))) H)
theorem zBG(hu:X.A.units+64<cLine):OpR X (compareOp .In) rInN:=by
 intro pins s σ H x y v u Q I rx ry h;obtain⟨a,bs,rfl,hA,hb,h⟩:=h;cases ry;obtain⟨hφ,_,_⟩:=I.hok a _ hA;obtain⟨md,hsy⟩:=z7o (P:=X.prog) (w:=X.w) hφ;rcases h with ⟨rfl,q⟩ | ⟨b,ns,rfl,hB,q⟩
 ·cases rx;refine inN (by omega) hsy (k:=none) rfl md (z0r I hb) ?_
  have:((nxs bs).any fun x=>decide (x.1=none))=true:=List.any_eq_true.mpr ⟨(none,.none,.bool true),by unfold nxs;simp,by simp⟩;rw[this];exact⟨.bl true,H,I.tok _,rfl,q⟩
 ·cases rx;have hk:isN X.prog X.w s.heap (some (ns.map Sum.inl)) (.ref b):=by
   refine⟨b,rfl,wA I.hok ?_,fun k hk=>?_⟩
   ·rw[hB];simp[List.map_map,Function.comp_def,kV]
   ·obtain⟨n,_,rfl⟩:=List.mem_map.mp hk;exact⟨n,rfl⟩
  refine inN (by omega) hsy hk md (z0r I hb) ?_;rw[z9K];exact⟨.bl _,H,I.tok _,rfl,q⟩
theorem z3D{nss:List (List Int)}{Q:Unit->Shared->Prop}(hu:A.units+64<cLine)(I:L2.Inv X pins σ H s)(e:H a=some (.dT (nss.map fun ns=>(ns.map Sum.inl,V.bl true))))
  (h:∀bs:List (List Int×Addr),bs.map (·.1)=nss->(∀q∈bs,H q.2=some (.tup (q.1.map V.int)))->∀s',L2.Inv X pins σ (upd H a (.ext (z1Z a bs))) s'->Q () s'):wpAny (model X.prog X.w) A (setItem (.ref a) .none (.bool true)) Q E s:=by
 obtain⟨z,hd,xs,rel,dd⟩:=z70 I.hok e;have gen:∀{nss:List (List Int)} {xs:List (List Key×Addr×Value)},KT H (nss.map fun ns=>(ns.map Sum.inl,V.bl true)) xs->∃bs:List (List Int×Addr),bs.map (·.1)=nss/\(∀q∈bs,H q.2=some (.tup (q.1.map V.int)))/\xs=bs.map fun q=>(q.1.map Sum.inl,q.2,.bool true):=by
  intro nss
  induction nss with
  | nil=>intro xs r;cases r;exact⟨[],rfl,fun _ z=>(nomatch z),rfl⟩
  | cons ns nss ih=>
   intro xs r;cases r with
   | @cons p q ps qs h t=>
    obtain⟨h1,h2,h3⟩:=h;obtain⟨bs,b1,b2,b3⟩:=ih t;obtain⟨q1,q2,q3⟩:=q;have h1:ns.map Sum.inl=q1:=h1;have h3:q3=.bool true:=h3;subst h1 h3;refine⟨(ns,q2)::bs,by rw[List.map_cons,b1],fun q hq=>?_,by rw[b3];rfl⟩;rcases List.mem_cons.mp hq with rfl | hq
    ·have h2:H q2=some (.tup ((ns.map Sum.inl).map kV)):=h2;rw[h2];simp[List.map_map,Function.comp_def,kV]
    ·exact b2 q hq
 obtain⟨bs,b1,b2,rfl⟩:=gen rel;have md:=z6x dd;have hnd:(bs.map (·.1)).Nodup:=by
  obtain⟨_,_,_,_,_,_,_,_,hn⟩:=dd;rw[List.map_map]at hn;exact List.pairwise_map.mpr ((List.pairwise_map.mp hn).imp fun{x y} hxy z=>hxy (by show x.1.map Sum.inl=y.1.map Sum.inl;rw[z]))
 have hz:(bs.map fun q=>((q.1.map Sum.inl:List Key),q.2,Value.bool true)).length<=sizeLine:=by rw[<-Paired.length rel];exact z
 refine setN (by omega) md ?_ ?_ (by simpa using hz) fun h' md' hs'=>h bs b1 b2 _ ?_
 ·intro x hx;obtain⟨y,hy,rfl⟩:=List.mem_map.mp hx;obtain⟨q,hq,rfl⟩:=List.mem_map.mp hy;exact z0r I b2 (some (q.1.map Sum.inl),.ref q.2,.bool true) (by unfold nxs;exact List.mem_append_left _ (List.mem_map.mpr ⟨q,hq,rfl⟩))
 ·intro hm;obtain⟨x,hx,e'⟩:=List.mem_map.mp hm;obtain⟨y,_,rfl⟩:=List.mem_map.mp hx;cases e'
 ·obtain⟨o',es',ep',ho',hc',hd',he',hn'⟩:=md';refine wJ I (by rw[e];exact True.intro) hs' ⟨o',ho'⟩ ⟨⟨hsI,o',es',ep',zBP,ho',hc',hd',?_,hnd,hd⟩,⟨o',ho'⟩,fun h1 h2 n k=>?_⟩
  ·rw[he',List.map_append,List.map_map,List.map_map];congr 1;refine List.map_congr_left fun q _=>?_;show(⟨(tk X.prog X.w).hash (q.1.map Sum.inl),.ref q.2,.bool true⟩:DictEntry)=_;rw[show(tk X.prog X.w).hash (q.1.map Sum.inl)=hsI q.1 from zBP X.prog X.w q.1]
  ·obtain⟨hs,o,es,ep,r1,r2,r3⟩:=n;exact⟨hs,o,es,ep,r1,k _ r2,r3⟩
noncomputable def zBu(td ty tv:TE):TS:=fun D σ H=>tv σ H fun v H1=>td σ H1 fun x H2=>ty σ H2 fun y H3=>∃(a:Addr) (nss:List (List Int)),x=.ref a/\y=.non/\v=.bl true/\(H3 a=some (.dT (nss.map fun ns=>(ns.map Sum.inl,V.bl true)))\/(nss=[]/\H3 a=some (.dK [])))/\
 ∀bs:List (List Int×Addr),bs.map (·.1)=nss->(∀q∈bs,H3 q.2=some (.tup (q.1.map V.int)))->D.nx σ (upd H3 a (.ext (z1Z a bs)))
theorem z86{o i value:Expr}{pos pos':Pos}{td ty tv:TE}(hu:X.A.units+64<cLine)(ho:PE X o td)(hi:PE X i ty)(hv:PE X value tv)(hs:swapsWith value (some (.Subscript o i pos')) pos.line X.env=pure false):
  PS X (.Assign [.Subscript o i pos'] value pos) (zBu td ty tv):=by
 intro pins s σ H D I h;refine wpAny_Assign_Subscript (thn (hv pins s σ H _ I h) fun r s1 ⟨v,H1,I1,rv,q1⟩=>thn (ho pins s1 σ H1 _ I1 q1) fun u s2 ⟨x,H2,I2,rx,q2⟩=>thn (hi pins s2 σ H2 _ I2 q2) fun iv s3 ⟨y,H3,I3,ry,a,nss,ex,ey,ev',e,q3⟩=>?_) hs;subst ex ey ev';obtain rfl:u=Value.ref a:=rx;cases ry;cases rv;rcases e with e | ⟨rfl,e⟩
 ·exact z3D hu I3 e fun bs b1 b2 s' I'=>⟨σ,_,I',q3 bs b1 b2⟩
 ·refine z3D (nss:=[]) hu (I3.relT e) zG fun bs b1 b2 s' I'=>?_;obtain rfl:bs=[]:=List.map_eq_nil_iff.mp b1;rw[wu]at I';exact⟨σ,_,I',q3 [] rfl fun _ z=>(nomatch z)⟩
end
section
variable{K:W.Frag}{Er:Str->Hp->Prop}{X:Cx}{g:Gh}{ow:Ix->Option Addr}{ρ:Env'}{n:Wd}{σ:L2.St}{H:Hp}{o k v e:Expr}{pos pos':Pos}
noncomputable def noneK(nss:List (List Int)):List (PyData×List PyData):=(PyData.none,[])::nss.map fun ns=>(PyData.tuple (ns.map PyData.int),[])
theorem Frm.noneK{i:Nat}{a:Addr}{x:PyData}{bs:List (List Int×Addr)}(f:Frm K g ow ρ n σ H)(he:ρ[i]?=some (some (Sl.own x)))(hi:ow (i,0)=some a)(hm:∀xs,H a≠some (.tup xs))(hb:∀q∈bs,H q.2=some (.tup (q.1.map V.int))):
  Frm K g ow (ρ.set i (some (Sl.deep (L2.noneK (bs.map (·.1)))))) n σ (upd H a (.ext (z1Z a bs))):=by
 have kS:=f.kpOwn (o:=.ext (z1Z a bs)) hi hm;obtain⟨h0,h1,h2,h3⟩:=f.owi _ a hi;obtain⟨a',ea,es,_⟩:=f.own i x he;rw[hi]at ea;cases ea;refine⟨f.scr,f.twn.updT h2 hm,f.sub,fun b u h k=>?_,fun j d' e=>?_,fun j y e=>?_,fun j kl e=>?_,fun j b e=>?_,f.inj,by simp[f.len]⟩
 ·rw[zI (zb h h0)];exact f.ext b u h k
 ·rw[zh]at e;split at e
  next c=>cases e
  next c=>
   obtain⟨v',e1,r1⟩:=f.val j d' e;exact⟨v',e1,r1.kp kS fun _ z=>.inl z⟩
 ·rw[zh]at e;split at e
  next c=>cases e
  next c=>
   obtain⟨b,e0,e1,r1⟩:=f.own j y e;have hj:j≠i:=fun z=>c ⟨z,h3⟩;have hb:b≠a:=fun z=>hj (congrArg Prod.fst (f.inj (j,0) (i,0) a (z▸e0) hi));refine⟨b,e0,e1,r1.move kS (fun _ z=>.inl z) fun q e _ hq=>⟨fun o z=>by cases e;rw[zI hb];exact z,hq⟩⟩
 ·rw[zh]at e;split at e
  next c=>
   cases e;rw[c.1];refine⟨.ref a,es,.inr ⟨a,bs,rfl,hi,zG,fun q hq=>kS _ _ (hb q hq) (.inr ⟨_,rfl⟩),?_⟩⟩;unfold L2.noneK;rw[List.map_map];rfl
  next c=>
   obtain⟨v',e1,r1⟩:=f.dp j kl e;have hj:j≠i:=fun z=>c ⟨z,h3⟩;exact⟨v',e1,r1.move (fun l a z=>z) (fun l b z o q=>by rw[zI (show b≠a from fun y=>hj (congrArg Prod.fst (f.inj (j,l) (i,0) a (y▸z) hi)))];exact q) kS fun _ z=>.inl z⟩
 ·obtain⟨q0,q1,q2,q3⟩:=f.owi j b e;refine⟨q0,?_,q2,by rw[List.length_set];exact q3⟩;by_cases z:b=a
  ·subst z;exact Pl.upd (fun _ _ z=>by cases z)
  ·obtain⟨o,e,n⟩:=q1;exact⟨o,by rw[zI z];exact e,n⟩
noncomputable def xi:List (PyData×PyData)->Option (List (List Int))
 | []=>some []
 | (.tuple ds,.bool true)::r=>(zn ds).bind fun ns=>(xi r).map (ns::·)
 | _=>none
theorem z0K:∀{kvs:List (PyData×PyData)} {nss:List (List Int)},xi kvs=some nss->kvs=nss.map fun ns=>(PyData.tuple (ns.map PyData.int),PyData.bool true)
 | [],nss,h=>by simp only[xi]at h;cases h;rfl
 | q::r,nss,h=>by
  unfold xi at h;split at h
  next e0=>cases e0
  next ds r' e0=>
   cases e0;cases e:zn ds with
   | none=>rw[e]at h;cases h
   | some ns=>
    rw[e]at h;simp only[Option.bind_some]at h;cases e2:xi r with
    | none=>rw[e2]at h;cases h
    | some ms=>
     rw[e2]at h;cases h;rw[z0K e2,yT e];rfl
  next=>cases h
noncomputable def z6a(i:Nat):Env'->Mx Out:=fun ρ=>Mx.opt ((ownD ρ i).bind fun kvs=>(xi kvs).map fun nss=>Out.nx (ρ.set i (some (Sl.deep (noneK nss)))))
theorem zD5{S:Addr->Prop}{H:Hp}{a:Addr}{nss:List (List Int)}{ks:List (PyData×V)}(hp:Pl H a)(h1:DctAt H a ks)(h2:DctS S H (nss.map fun ns=>(PyData.tuple (ns.map PyData.int),PyData.bool true)) ks):H a=some (.dT (nss.map fun ns=>(ns.map Sum.inl,V.bl true)))\/(nss=[]/\H a=some (.dK [])):=by
 have pl:∀{u:HO},Rd H a u->H a=some u:=fun{u} r=>by
  rcases r with r | ⟨o,r⟩
  ·exact r
  ·obtain⟨o',e,n⟩:=hp;rw[r]at e;cases e;exact absurd rfl (n _ _)
 rcases h1 with ⟨l,r,e⟩ | ⟨l,r,e⟩
 ·cases nss with
  | nil=>
   simp only[List.map_nil,DctS]at h2;subst h2
   have:l=[]:=by cases l with | nil=>rfl | cons=>simp at e
   subst this;exact .inr ⟨rfl,pl r⟩
  | cons ns nss=>
   simp only[List.map_cons,DctS]at h2;obtain⟨x,r',e',_⟩:=h2;rw[e]at e';cases l with
   | nil=>cases e'
   | cons q l=>
    simp only[List.map_cons,List.cons.injEq,Prod.mk.injEq]at e';obtain⟨⟨e1,_⟩,_⟩:=e';cases hq:q.1<;>rw[hq]at e1<;>cases e1
 ·refine .inl ?_;have gen:∀{nss:List (List Int)} {l:List (List Key×V)},DctS S H (nss.map fun ns=>(PyData.tuple (ns.map PyData.int),PyData.bool true)) (l.map fun kv=>(kT kv.1,kv.2))->l=nss.map fun ns=>(ns.map Sum.inl,V.bl true):=by
   intro nss
   induction nss with
   | nil=>intro l h;simp only[List.map_nil,DctS]at h;exact List.map_eq_nil_iff.mp h
   | cons ns nss ih=>
    intro l h;simp only[List.map_cons,DctS]at h;obtain⟨x,r',e',h3,h4⟩:=h;cases l with
    | nil=>cases e'
    | cons q l=>
     simp only[List.map_cons,List.cons.injEq,Prod.mk.injEq]at e';obtain⟨⟨e1,e2⟩,e3⟩:=e';simp only[DatS]at h3;subst e3;rw[List.map_cons,<-ih h4];congr 1;refine Prod.ext ?_ (e2.trans h3);have e1:PyData.tuple (q.1.map kD)=PyData.tuple (ns.map PyData.int):=e1;injection e1 with e1
     have:q.1.map kD=(ns.map (Sum.inl:Int->Key)).map kD:=by rw[e1,List.map_map];rfl
     have inj:∀{l r:List Key},l.map kD=r.map kD->l=r:=by
      intro l
      induction l with
      | nil=>intro r e;cases r with | nil=>rfl | cons=>simp at e
      | cons a l ih2=>
       intro r e;cases r with
       | nil=>simp at e
       | cons b r=>
        simp only[List.map_cons,List.cons.injEq]at e;rw[ih2 e.2];cases a<;>cases b<;>simp only[kD]at e<;>first | (cases e.1;rfl) | (cases e.1)
     exact inj this
  rw[e]at h2;rw[pl r,gen h2]
theorem z8B{i:Nat}(hu:X.A.units+64<cLine)(ho:PE X o (tVar i))(hk:PE X k (tC .non))(hv:PE X v (tC (.bl true)))(hs:swapsWith v (some (.Subscript o k pos')) pos.line X.env=pure false):
  DS K Er X (.Assign [.Subscript o k pos'] v pos) (z6a i):=(z86 hu ho hk hv hs).imp fun σ H E h=>by
 obtain⟨g,ow,ρ,n,f,q⟩:=h;obtain⟨out,eo,q3⟩:=rs_o q;obtain⟨kvs,ek,e2⟩:=Option.bind_eq_some_iff.mp eo;obtain⟨nss,e3,rfl⟩:=Option.map_eq_some_iff.mp e2;obtain⟨a,a1,a2,dd⟩:=f.own i _ (ui ek);obtain⟨b,ks,eb,h1,h2⟩:=z0J dd;cases eb;rw[z0K e3]at h2;refine⟨.ref a,a2,a,nss,rfl,rfl,rfl,zD5 (f.owi _ a a1).2.1 h1 h2,fun bs b1 b2=>?_⟩;have f2:=f.noneK (ui ek) a1 h1.not_tup b2;rw[b1]at f2;exact q3 _ _ _ f2 (Stp.upd f a1 h1.not_tup)
end
section
variable{K:W.Frag}{Er:Str->Hp->Prop}{X:Cx}{e x:Expr}{m:Env'->Mx D}{pos:Pos}
noncomputable def tupK:List (PyData×List PyData)->Option (List (List Int))
 | []=>some []
 | (.tuple ds,[])::r=>(zn ds).bind fun ns=>(tupK r).map (ns::·)
 | _=>none
theorem z2p:∀nss:List (List Int),tupK (nss.map fun ns=>(PyData.tuple (ns.map PyData.int),[]))=some nss
 | []=>rfl
 | ns::nss=>by
  have:zn (ns.map PyData.int)=some ns:=by
   induction ns with
   | nil=>rfl
   | cons n ns ih=>simp only[List.map_cons,zn];rw[ih];rfl
  simp only[List.map_cons,tupK,this,Option.bind_some,z2p nss,Option.map_some]
noncomputable def z2K(ρ:Env')(i:Nat):Option (List (List Int)):=match ρ[i]? with
 | some (some (Sl.deep ((PyData.none,[])::r)))=>tupK r
 | _=>none
noncomputable def fInN(nss:List (List Int)):PyData->Option PyData
 | .none=>some (.bool true)
 | .tuple ds=>(zn ds).map fun ns=>.bool (nss.any fun q=>decide (q=ns))
 | _=>none
noncomputable def mInN(i:Nat)(m:Env'->Mx D):Env'->Mx D:=fun ρ=>m ρ >>= fun d=>Mx.opt ((onP (fun y=>(z2K ρ i).bind fun nss=>fInN nss y) d).map D.p)
theorem z5B{g:Gh}{ow:Ix->Option Addr}{ρ:Env'}{n:Wd}{σ:L2.St}{H:Hp}{i:Nat}{nss:List (List Int)}(f:Frm K g ow ρ n σ H)(h:z2K ρ i=some nss):∃a bs,σ[i]?=some (some (.ref a))/\H a=some (.ext (z1Z a bs))/\(∀q∈bs,H q.2=some (.tup (q.1.map V.int)))/\bs.map (·.1)=nss:=by
 unfold z2K at h;split at h
 next r e=>
  obtain⟨v,e1,d⟩:=f.dp i _ e;rcases d with ⟨a,ks,_,_,hd,hl,hk⟩ | ⟨a,bs,rfl,_,hA,hb,ek⟩
  ·obtain⟨b,xs,e2,_⟩:=hk 0 .none [] rfl;rcases hd with ⟨l,_,e3⟩ | ⟨l,_,e3⟩
   ·rw[e3,List.getElem?_map]at e2;obtain⟨q,_,e4⟩:=Option.map_eq_some_iff.mp e2;have e4:=congrArg Prod.fst e4;cases hq:q.1<;>simp only[hq]at e4<;>cases e4
   ·rw[e3,List.getElem?_map]at e2;obtain⟨q,_,e4⟩:=Option.map_eq_some_iff.mp e2;have e4:=congrArg Prod.fst e4;cases e4
  ·have er:=(List.cons.inj ek).2;rw[er,show(bs.map fun q=>(PyData.tuple (q.1.map PyData.int),([]:List PyData)))=(bs.map (·.1)).map fun ns=>(PyData.tuple (ns.map PyData.int),[]) by rw[List.map_map];rfl,z2p]at h;cases h;exact⟨a,bs,e1,hA,hb,rfl⟩
 next=>cases h
theorem z8y{i:Nat}(hu:X.A.units+64<cLine)(ha:DE K Er X e m)(hx:PE X x (tVar i))(hm:behindInMarks .In x=false):DE K Er X (.Compare e [.In] [x] pos) (mInN i m):=
 (z5w (zBG hu) ha hx hm).imp fun σ H Q h=>rd1 h (fun _ _ _ _ _ _ _ _ _ _ r=>r) fun g ow ρ n d v H0 H2 fr _ r q=>by
  obtain⟨z,e,q2⟩:=yk fr.twn q;obtain⟨y,rfl,e1⟩:=zf e;obtain⟨nss,en,ef⟩:=Option.bind_eq_some_iff.mp e1;obtain⟨a,bs,s1,hA,hb,rfl⟩:=z5B fr en;refine⟨.ref a,s1,a,bs,rfl,hA,hb,?_⟩;have r:DatS (g.S ow) H2 y v:=r;cases y<;>simp only[fInN]at ef<;>try (cases ef;done)
  ·cases ef;simp only[DatS]at r;exact .inl ⟨r,q2 _ _ (Same.refl _) (by simp only[DatS])⟩
  ·rename_i ds
   obtain⟨ns,e2,rfl⟩:=Option.map_eq_some_iff.mp ef;simp only[DatS]at r;obtain⟨b,xs,rfl,hB,dx⟩:=r
   have:=yd e2 dx;subst this;refine .inr ⟨b,ns,rfl,hB,q2 _ _ (Same.refl _) ?_⟩;simp only[DatS,List.any_map,Function.comp_def]
end
theorem z7I:∀its:List Value,((List.range its.length).reverse.filterMap (its[·]?))=its.reverse:=by
 intro its;rw[List.filterMap_reverse];congr 1
 have:=filterMap_getElem?_range its.toArray;simpa using this
theorem z5r(n:Nat):sliceRange (sliceBounds none none (some (-1)) n).1 (sliceBounds none none (some (-1)) n).2.1 (sliceBounds none none (some (-1)) n).2.2=(List.range n).reverse:=by
 show sliceRange ((n:Int) - 1) (-1) (-1)=_;unfold sliceRange;have hc:(if ((-1:Int)>0)then(if ((n:Int) - 1 < -1)then(-1 - ((n:Int) - 1) + -1 - 1) / -1 else 0)else(if ((n:Int) - 1 > -1)then((n:Int) - 1 - -1 - -1 - 1) / (- -1)else 0)).toNat=n:=by
  rw[if_neg (by decide)];split
  ·rw[show(- -1:Int)=1 from rfl,Int.ediv_one];omega
  ·omega
 simp only[hc];refine List.ext_getElem (by simp) fun k h1 h2=>?_;simp only[List.length_map,List.length_range]at h1;simp only[List.getElem_map,List.getElem_range,List.getElem_reverse,List.length_range];omega
theorem z6U(its:List Value):slicePick its.toArray none none (some (-1))=its.reverse.toArray:=by
 unfold slicePick;rw[List.size_toArray,z5r];congr 1
 have:=z7I its;simpa using this
theorem Vals.rev{xs:List V}{its:List Value}(r:Vals xs its):Vals xs.reverse its.reverse:=by
 induction r with
 | nil=>exact .nil
 | cons h t ih=>
  simp only[List.reverse_cons];exact ih.append (.cons h .nil)
section
variable{K:W.Frag}{Er:Str->Hp->Prop}{X:Cx}{e st:Expr}{te ts:TE}{m:Env'->Mx D}{pos p2:Pos}
noncomputable def tRev(K:W.Frag)(te ts:TE):TE:=fun σ H Q=>te σ H fun x H1=>ts σ H1 fun y H2=>∃a xs,x=.ref a/\y=.int (-1)/\SqL K H2 a xs/\∀p,H2 p=none->Q (.ref p) (upd H2 p (.lst xs.reverse))
theorem zAn(he:PE X e te)(hs:PE X st ts):PE X (.Subscript e (.Slice none none (some st) p2) pos) (tRev X.K te ts):=by
 intro pins s σ H Q I h;refine Subscript_ (thn (he pins s σ H _ I h) fun v s1 ⟨x,H1,I1,r1,q1⟩=>?_);refine wpAny_Slice ?_;rw[evalPart_none];refine wpAny_pure (wpAny_pure ?_);rw[evalPart_some];refine thn (hs pins s1 σ H1 _ I1 q1) fun vu s3 ⟨y,H3,I3,r3,a,xs,ex,ey,hx,q3⟩=>?_;subst ex ey;cases r1;obtain⟨t,rfl⟩:=r3;have I4:Inv X pins σ H3 { s3 with heap:=s3.heap.push { cls:=.type "slice",data:=.fields #[.none,.none,.int (-1) t] } }:=I3.kept (t':=s3.toks) fun b ob q=>Heap.get?_push_of_some _ q;obtain⟨its,r,ht,hz⟩:=I4.list hx;have hlen:=r.length;show wpAny (model X.prog X.w) X.A (subscriptTail e (.Slice none none (some st) p2) (.ref a) (.ref s3.heap.objs.size)) (EP X pins σ Q) X.xe { s3 with heap:=s3.heap.push { cls:=.type "slice",data:=.fields #[.none,.none,.int (-1) t] } };refine tail_any (ops:=[.ref a,.ref s3.heap.objs.size]) ht.isList.typeIs slot_list_getitem.lookup ?_ (by with_unfolding_all rfl);refine wpAny_getItem_list_slice ht.isList (Heap.IsSliceOf.new ..) .none .none (.int (-1) t) (by decide) ?_ (by rw[List.size_toArray]<;>omega);rw[z6U];refine⟨.ref (s3.heap.push { cls:=.type "slice",data:=.fields #[.none,.none,.int (-1) t] }).objs.size,_,I4.laid (t':=s3.toks) (o:=.lst xs.reverse) (fun b ob q=>Heap.get?_push_of_some _ q) (Nat.le_refl _) ?_,rfl,q3 _ (I4.hok.fresh (Nat.le_refl _))⟩;exact⟨by rw[List.length_reverse];exact hz,_,0,r.rev,Heap.get?_push_size _ rfl⟩
end
section
variable{K:W.Frag}{Er:Str->Hp->Prop}{X:Cx}{a st:Expr}{ma:Env'->Mx D}{pos p2:Pos}
theorem z9l{p p':Pos}{j:Nat}:PE X (.UnaryOp .USub (.Constant (.int 1) j p) p') (fun _ H Q=>Q (.int (-1)) H):=(zC3 z8O z24).imp fun σ H Q h=>⟨1,rfl,h⟩
noncomputable def fRev:PyData->Option PyData
 | .list ds=>some (.list ds.reverse)
 | _=>none
theorem DatsS.rev{S:Addr->Prop}{H:Hp}:∀{ds:List PyData} {xs:List V},DatsS S H ds xs->DatsS S H ds.reverse xs.reverse
 | [],xs,h=>by simp only[DatsS]at h;subst h;rfl
 | d::ds,xs,h=>by
  obtain⟨x,r,rfl,h1,h2⟩:=h;rw[List.reverse_cons,List.reverse_cons];exact DatsS.append (DatsS.rev h2) ⟨x,[],rfl,h1,rfl⟩
theorem zBQ(ha:DW K Er X a ma)(hs:PE X st (tC (.int (-1)))):DE K Er X (.Subscript a (.Slice none none (some st) p2) pos) (mUn fRev ma):=
 (zAn ha hs).imp fun σ H Q h=>rd1 h (fun _ _ _ _ _ _ _ _ _ _ r=>r) fun g ow ρ n d v H0 H2 fr _ r q=>by
  obtain⟨z,e,q2⟩:=yk fr.twn q;obtain⟨x,rfl,e1⟩:=zf e;cases x<;>simp only[fRev]at e1<;>try (cases e1;done)
  cases e1;obtain⟨b,xs,rfl,g1,k1⟩:=ym (Rep1.d1 r);exact⟨b,xs,rfl,rfl,SqL.of g1,fun p hp=>q2 _ _ (Same.new hp) (xt fr.dom hp k1.rev)⟩
end
def Ok{α:Type}(m:Mx α)(n:Wd)(P:α->Wd->Prop):Prop:=∃a n',m n=.ok a n'/\P a n'
section
variable{α β:Type}{n:Wd}
theorem Ok.imp{m:Mx α}{P Q:α->Wd->Prop}(h:Ok m n P)(k:∀a n',P a n'->Q a n'):Ok m n Q:=by
 obtain⟨a,n',e,p⟩:=h;exact⟨a,n',e,k a n' p⟩
theorem zz(m:Mx α)(f:α->Mx β)(P:β->Wd->Prop):Ok (m >>= f) n P↔Ok m n (fun a n'=>Ok (f a) n' P):=by
 constructor
 ·rintro⟨b,n',e,p⟩;rw[Mx.bind_def]at e;cases z:m n with
  | ok a n1=>rw[z]at e;exact⟨a,n1,z,b,n',e,p⟩
  | err c n1=>rw[z]at e;cases e
  | bad=>rw[z]at e;cases e
 ·rintro⟨a,n1,e1,b,n2,e2,p⟩;exact⟨b,n2,by rw[Mx.bind_def,e1];exact e2,p⟩
theorem y4(a:α)(P:α->Wd->Prop):Ok (pure a:Mx α) n P↔P a n:=
 ⟨fun⟨_,_,e,p⟩=>by cases e;exact p,fun p=>⟨a,n,rfl,p⟩⟩
theorem ya(a:α)(P:α->Wd->Prop):Ok (Mx.opt (some a)) n P↔P a n:=
 ⟨fun⟨_,_,e,p⟩=>by cases e;exact p,fun p=>⟨a,n,rfl,p⟩⟩
theorem wX{o:Option α}{P:α->Wd->Prop}{a:α}(e:o=some a)(h:P a n):Ok (Mx.opt o) n P:=by rw[e];exact(ya a P).mpr h
end
theorem w5{τ:Env'->PyData->Option Env'}{body:Env'->Mx Out}{P:Out->Wd->Prop}(I:Nat->Env'->Wd->Prop){ds:List PyData}
  (step:∀k ρ n (hk:k<ds.length),I k ρ n->∃ρ1,τ ρ ds[k]=some ρ1/\Ok (body ρ1) n fun o n'=>match o with
   | .nx ρ'=>I (k+1) ρ' n'
   | .ct ρ'=>I (k+1) ρ' n'
   | .bk ρ'=>P (.nx ρ') n'
   | .rt d=>P (.rt d) n')
  (ends:∀ρ n,I ds.length ρ n->P (.nx ρ) n) {ρ:Env'} {n:Wd} (h:I 0 ρ n):Ok (xb τ body ds ρ) n P:=by
 have gen:∀(l:List PyData) (k:Nat),ds.drop k=l->k<=ds.length->∀ρ n,I k ρ n->Ok (xb τ body l ρ) n P:=by
  intro l
  induction l with
  | nil=>
   intro k e hk ρ n h
   have:k=ds.length:=by
    have:=congrArg List.length e;rw[List.length_drop,List.length_nil]at this;omega
   subst this;simp only[xb,y4];exact ends ρ n h
  | cons d r ih=>
   intro k e hk ρ n h;have hlt:k<ds.length:=by
    have:=congrArg List.length e;rw[List.length_drop,List.length_cons]at this;omega
   have ed:ds[k]=d/\ds.drop (k+1)=r:=by
    rw[List.drop_eq_getElem_cons hlt]at e;exact⟨(List.cons.inj e).1,(List.cons.inj e).2⟩
   obtain⟨ρ1,e1,hb⟩:=step k ρ n hlt h;rw[ed.1]at e1;simp only[xb,e1,zz,ya];refine hb.imp fun o n' ho=>?_;cases o with
   | nx ρ'=>exact ih (k+1) ed.2 hlt ρ' n' ho
   | ct ρ'=>exact ih (k+1) ed.2 hlt ρ' n' ho
   | bk ρ'=>simp only[u7,y4];exact ho
   | rt d=>simp only[u7,y4];exact ho
 exact gen ds 0 (List.drop_zero) (Nat.zero_le _) ρ n h
theorem z3R{c:Env'->Mx Bool}{body:Env'->Mx Out}{P:Out->Wd->Prop}(I:Nat->Env'->Wd->Prop)
  (step:∀μ ρ n,I μ ρ n->Ok (c ρ) n fun t n'=>(t=true->∃μ',μ=μ'+1/\Ok (body ρ) n' fun o n2=>match o with
   | .nx ρ'=>∃ν,ν<=μ'/\I ν ρ' n2
   | .ct ρ'=>∃ν,ν<=μ'/\I ν ρ' n2
   | .bk ρ'=>P (.nx ρ') n2
   | .rt d=>P (.rt d) n2)/\(t=false->P (.nx ρ) n')) {μ k:Nat} (hk:μ<k) {ρ:Env'} {n:Wd} (h:I μ ρ n):Ok (z0D c body k ρ) n P:=by
 have gen:∀(k μ:Nat),μ<k->∀ρ n,I μ ρ n->Ok (z0D c body k ρ) n P:=by
  intro k
  induction k with
  | zero=>intro μ h;omega
  | succ k ih=>
   intro μ hμ ρ n h;simp only[z0D,zz];refine(step μ ρ n h).imp fun t n' ⟨h1,h2⟩=>?_;cases t with
   | false=>simp only[Bool.false_eq_true,if_false,y4];exact h2 rfl
   | true=>
    obtain⟨μ',e,hb⟩:=h1 rfl;simp only[if_true,zz];refine hb.imp fun o n2 ho=>?_;cases o with
    | nx ρ'=>obtain⟨ν,hν,hi⟩:=ho;exact ih ν (by omega) ρ' n2 hi
    | ct ρ'=>obtain⟨ν,hν,hi⟩:=ho;exact ih ν (by omega) ρ' n2 hi
    | bk ρ'=>simp only[u7,y4];exact ho
    | rt d=>simp only[u7,y4];exact ho
 exact gen k μ hk ρ n h
theorem wC{c:Env'->Mx Bool}{e:Env'->Mx D}{ρ:Env'}{P:List PyData->Wd->Prop}(I:Nat->List PyData->Wd->Prop){ds:List PyData}
  (step:∀k acc n (hk:k<ds.length),I k acc n->Ok (c (ρ++[some (Sl.val (.p ds[k]))])) n fun t n'=>(t=true->Ok (e (ρ++[some (Sl.val (.p ds[k]))])) n' fun y n2=>∃z,y=.p z/\I (k+1) (acc++[z]) n2)/\(t=false->I (k+1) acc n'))
  (ends:∀acc n,I ds.length acc n->P acc n) {acc:List PyData} {n:Wd} (h:I 0 acc n):Ok (zc c e ρ ds acc) n P:=by
 have gen:∀(l:List PyData) (k:Nat),ds.drop k=l->k<=ds.length->∀acc n,I k acc n->Ok (zc c e ρ l acc) n P:=by
  intro l
  induction l with
  | nil=>
   intro k ez hk acc n h
   have:k=ds.length:=by
    have:=congrArg List.length ez;rw[List.length_drop,List.length_nil]at this;omega
   subst this;simp only[zc,y4];exact ends acc n h
  | cons d r ih=>
   intro k ez hk acc n h;have hlt:k<ds.length:=by
    have:=congrArg List.length ez;rw[List.length_drop,List.length_cons]at this;omega
   have ed:ds[k]=d/\ds.drop (k+1)=r:=by
    rw[List.drop_eq_getElem_cons hlt]at ez;exact⟨(List.cons.inj ez).1,(List.cons.inj ez).2⟩
   have st:=step k acc n hlt h;rw[ed.1]at st;simp only[zc,zz];refine st.imp fun t n' ⟨h1,h2⟩=>?_;cases t with
   | false=>simp only[Bool.false_eq_true,if_false];exact ih (k+1) ed.2 hlt acc n' (h2 rfl)
   | true=>
    simp only[if_true,zz];refine(h1 rfl).imp fun y n2 ⟨z,ey,hi⟩=>?_;subst ey;simp only[onP,ya];exact ih (k+1) ed.2 hlt _ n2 hi
 exact gen ds 0 (List.drop_zero) (Nat.zero_le _) acc n h
theorem z7v{c:Env'->Mx Bool}{e:Env'->Mx D}{ρ:Env'}(f:PyData->Option PyData){ds:List PyData}{n:Wd}
  (step:∀d∈ds,(f d=none/\Ok (c (ρ++[some (Sl.val (.p d))])) n fun t n'=>t=false/\n'=n)\/∃z,f d=some z/\Ok (c (ρ++[some (Sl.val (.p d))])) n fun t n'=>t=true/\n'=n/\Ok (e (ρ++[some (Sl.val (.p d))])) n fun y n2=>y=.p z/\n2=n)
  {P:List PyData->Wd->Prop} (h:P (ds.filterMap f) n):Ok (zc c e ρ ds []) n P:=by
 refine wC (I:=fun k acc n'=>n'=n/\acc=(ds.take k).filterMap f) (fun k acc n' hk hI=>?_) (fun acc n' hI=>?_) ⟨rfl,by simp⟩
 ·obtain⟨e1,e2⟩:=hI;subst e1;have tk:(ds.take (k+1)).filterMap f=(ds.take k).filterMap f++(match f ds[k]with | some z=>[z] | none=>[]):=by
   rw[List.take_succ,List.getElem?_eq_getElem hk,List.filterMap_append];congr 1;simp only[Option.toList];cases z:f ds[k]<;>simp[z]
  rcases step ds[k] (List.getElem_mem hk)with ⟨fz,h1⟩ | ⟨z,fz,h1⟩
  ·refine h1.imp fun t n1 ht=>?_;obtain⟨et,en⟩:=ht;refine⟨fun z=>?_,fun _=>⟨en,?_⟩⟩
   ·rw[et]at z;cases z
   ·rw[tk,fz,<-e2];simp
  ·refine h1.imp fun t n1 ht=>?_;obtain⟨et,en,h2⟩:=ht;refine⟨fun _=>?_,fun z=>?_⟩
   ·rw[en];refine h2.imp fun y n2 hy=>?_;obtain⟨ey,en2⟩:=hy;refine⟨z,ey,en2,?_⟩;rw[tk,fz,<-e2]
   ·rw[et]at z;cases z
 ·obtain⟨e1,e2⟩:=hI;subst e1 e2;rw[List.take_length];exact h
theorem zCn{nn ar:Nat}{m:Env'->Mx Out}{ds:List D}{n:Wd}{P:D->Wd->Prop}(hl:ds.length=ar)(h:Ok (m (ds.map (fun d=>some (Sl.val d))++List.replicate (nn - ar) none)) n fun o n'=>match o with
      | .rt d=>P d n'
      | .nx _=>P (.p .none) n'
      | _=>False):Ok (mFn nn ar m ds) n P:=by
  unfold mFn;rw[if_pos hl,zz];refine h.imp fun o n' ho=>?_;cases o with
  | rt d=>simp only[outD,y4];exact ho
  | nx ρ=>simp only[outD,y4];exact ho
  | bk ρ=>exact ho.elim
  | ct ρ=>exact ho.elim
theorem ok_seq{a b:Env'->Mx Out}{ρ:Env'}{n:Wd}{P:Out->Wd->Prop}:Ok (sSeq a b ρ) n P↔Ok (a ρ) n fun o n'=>match o with
      | .nx ρ'=>Ok (b ρ') n' P
      | o=>P o n':=by
  unfold sSeq;rw[zz];constructor
  · refine fun h=>h.imp fun o n' ho=>?_;cases o<;>first | exact ho | (simp only[y4]at ho;exact ho)
  · refine fun h=>h.imp fun o n' ho=>?_;cases o<;>first | exact ho | (simp only[y4];exact ho)
theorem z9w{α:Type}(f:PyData->PyData->Option α)(x y:PyData):onP2 f (.p x) (.p y)=f x y:=rfl
theorem z2w{α:Type}(f:PyData->Option α)(x:PyData):onP f (.p x)=f x:=rfl
theorem fAdd_int(i j:Int):fAdd (.int i) (.int j)=some (.int (i+j)):=rfl
theorem fSub_int(i j:Int):fSub (.int i) (.int j)=some (.int (i - j)):=rfl
theorem uH{i j:Int}(h:0<j):fMod (.int i) (.int j)=some (.int (i % j)):=by simp only[fMod,if_pos h]
theorem zAv{i j:Int}(h : -(2 ^ 64)<j/\j<2 ^ 64):fMul (.int i) (.int j)=some (.int (i*j)):=by simp only[fMul];rw[if_pos (.inr h)]
theorem z56{i j:Int}(h : -(2 ^ 64)<i/\i<2 ^ 64):fMul (.int i) (.int j)=some (.int (i*j)):=by simp only[fMul];rw[if_pos (.inl h)]
theorem fLt_int(i j:Int):fLt (.int i) (.int j)=some (.bool (decide (i<j))):=rfl
theorem fCmp_int(p:Int->Int->Bool)(i j:Int):fCmp p (.int i) (.int j)=some (.bool (p i j)):=rfl
theorem z2Z(i j:Int):PyData.eqv (.int i) (.int j)=decide (i=j):=by simp[PyData.eqv,Bool.beq_eq_decide_eq]
theorem fEq_int(i j:Int):fEq false (.int i) (.int j)=some (.bool (decide (i=j))):=by
 unfold fEq;rw[if_pos ⟨rfl,rfl,by simp[PyData.depth]⟩,z2Z];rfl
theorem fNe_int(i j:Int):fEq true (.int i) (.int j)=some (.bool (!decide (i=j))):=by
 unfold fEq;rw[if_pos ⟨rfl,rfl,by simp[PyData.depth]⟩,z2Z];rfl
theorem z9z{α:Type}(x:α)(l:List α):atI (x::l) 0=some x:=by
 have:=z1A (xs:=x::l) (j:=0) (v:=x) rfl;simpa using this
theorem zCU{α:Type}(x y:α)(l:List α):atI (x::y::l) 1=some y:=by
 have:=z1A (xs:=x::y::l) (j:=1) (v:=y) rfl;simpa using this
theorem z02{α:Type}{xs:List α}{i:Int}{v:α}(h0:0<=i)(h:xs[i.toNat]?=some v):atI xs i=some v:=by
 have:=z1A h
 rwa [Int.toNat_of_nonneg h0]at this
theorem fIx_t0(x:PyData)(l:List PyData):fIx (.tuple (x::l)) (.int 0)=some x:=z9z x l
theorem fIx_t1(x y:PyData)(l:List PyData):fIx (.tuple (x::y::l)) (.int 1)=some y:=zCU x y l
theorem fLen_t(l:List PyData):fLen [.tuple l]=some (.int l.length):=rfl
theorem fLen_l(l:List PyData):fLen [.list l]=some (.int l.length):=rfl
theorem z93{ρ:Env'}{i:Nat}{n:Wd}{P:Out->Wd->Prop}(h:uu ρ[i]?=true)(hn:n.n<lim)(k:P (.nx ρ) n.up):Ok (z6S i ρ) n P:=⟨.nx ρ,n.up,by unfold z6S;rw[if_pos ⟨h,hn⟩],k⟩
theorem zAK{ρ:Env'}{i:Nat}{n:Wd}{P:D->Wd->Prop}(h:uu ρ[i]?=true)(k:P (.p (.int n.n)) n):Ok (z5F i ρ) n P:=⟨_,n,by unfold z5F;rw[if_pos h],k⟩
theorem fIsi_bi(x:Int):fIsi "bool" (.int x)=some (.bool false):=rfl
theorem fIsi_ii(x:Int):fIsi "int" (.int x)=some (.bool true):=rfl
theorem fIsi_tt(l:List PyData):fIsi "tuple" (.tuple l)=some (.bool true):=rfl
theorem fIsi_ll(l:List PyData):fIsi "list" (.list l)=some (.bool true):=rfl
theorem y7{j:Int}(h : -1000000<=j/\j<=1000000):yl [.int j]=some (rngD 0 j):=by simp only[yl,if_pos h]
theorem z8H{i j:Int}(h:(-1000000<=i/\i<=1000000)/\(-1000000<=j/\j<=1000000)/\(j - i).toNat<=lim):z45 [.int i,.int j]=some (rngD i j):=by simp only[z45,if_pos h]
theorem fTuple_l(l:List PyData):z01 [.list l]=some (.tuple l):=rfl
theorem uL{lo hi:Int}{k:Nat}(h:k<(rngD lo hi).length):(rngD lo hi)[k]=.int (lo+k):=by
 simp[rngD]
theorem uT{lo hi:Int}:(rngD lo hi).length=(hi - lo).toNat:=by simp[rngD]
theorem zB2{i:Nat}{m:Env'->Mx D}{ρ:Env'}{n:Wd}{P:Out->Wd->Prop}{l:List PyData}(hl:ownL ρ i=some l)(h:Ok (m ρ) n fun d n'=>∃z,d=.p (.list z)/\l.length+z.length<10000/\P (.nx (ρ.set i (some (Sl.own (.list (l++z)))))) n'):Ok (sExt i m ρ) n P:=by
 unfold sExt;simp only[hl,zz,ya];refine h.imp fun d n' hz=>?_;obtain⟨z,rfl,hlen,hp⟩:=hz;have hlen:l.length+z.length<=lim:=by unfold lim;omega
 simp only[z2w,Option.bind_some,if_pos hlen,ya];exact hp
theorem z1J{i:Nat}{m:Env'->Mx D}{ρ:Env'}{n:Wd}{P:Out->Wd->Prop}{l:List PyData}(hl:ownL ρ i=some l)(h:Ok (m ρ) n fun d n'=>∃z,d=.p z/\l.length<10000/\P (.nx (ρ.set i (some (Sl.own (.list (l++[z])))))) n'):Ok (sApp i m ρ) n P:=by
 unfold sApp;simp only[hl,zz,ya];refine h.imp fun d n' hz=>?_;obtain⟨z,rfl,hlen,hp⟩:=hz;have hlen:l.length<lim:=by unfold lim;omega
 simp only[z2w,Option.bind_some,if_pos hlen,ya];exact hp
section
variable{α β:Type}{n:Wd}{ρ:Env'}
def kont(b:Env'->Mx Out)(P:Out->Wd->Prop)(o:Out)(n:Wd):Prop:=match o with
 | .nx ρ'=>Ok (b ρ') n P
 | o=>P o n
def outP(P:D->Wd->Prop)(o:Out)(n:Wd):Prop:=match o with
 | .rt d=>P d n
 | .nx _=>P (.p .none) n
 | _=>False
theorem t_bind{m:Mx α}{f:α->Mx β}{P:β->Wd->Prop}(h:Ok m n fun a n'=>Ok (f a) n' P):Ok (m >>= f) n P:=(zz m f P).mpr h
theorem t_pure{a:α}{P:α->Wd->Prop}(h:P a n):Ok (pure a:Mx α) n P:=⟨a,n,rfl,h⟩
theorem t_some{a:α}{P:α->Wd->Prop}(h:P a n):Ok (Mx.opt (some a)) n P:=⟨a,n,rfl,h⟩
theorem t_msome{a:α}{f:α->β}{P:β->Wd->Prop}(h:P (f a) n):Ok (Mx.opt ((some a).map f)) n P:=⟨f a,n,rfl,h⟩
theorem t_itt{a b:Mx α}{P:α->Wd->Prop}(h:Ok a n P):Ok (if true=true then a else b) n P:=by rw[if_pos rfl];exact h
theorem t_itf{a b:Mx α}{P:α->Wd->Prop}(h:Ok b n P):Ok (if false=true then a else b) n P:=by rw[if_neg (by decide)];exact h
theorem t_iT{a b:Mx α}{i:Decidable True}{P:α->Wd->Prop}(h:Ok a n P):Ok (if True then a else b) n P:=by rw[if_pos trivial];exact h
theorem t_it1{a b:Mx α}{t:Bool}{P:α->Wd->Prop}(e:t=true)(h:Ok a n P):Ok (if t=true then a else b) n P:=by rw[if_pos e];exact h
theorem t_it0{a b:Mx α}{t:Bool}{P:α->Wd->Prop}(e:t=false)(h:Ok b n P):Ok (if t=true then a else b) n P:=by rw[if_neg (by rw[e];decide)];exact h
theorem t_seq{a b:Env'->Mx Out}{P:Out->Wd->Prop}(h:Ok (a ρ) n (kont b P)):Ok (sSeq a b ρ) n P:=ok_seq.mpr (h.imp fun o n' q=>by cases o<;>exact q)
theorem t_nx{b:Env'->Mx Out}{P:Out->Wd->Prop}(h:Ok (b ρ) n P):kont b P (.nx ρ) n:=h
theorem t_rt{b:Env'->Mx Out}{P:Out->Wd->Prop}{d:D}(h:P (.rt d) n):kont b P (.rt d) n:=h
theorem t_ort{P:D->Wd->Prop}{d:D}(h:P d n):outP P (.rt d) n:=h
theorem t_onx{P:D->Wd->Prop}(h:P (.p .none) n):outP P (.nx ρ) n:=h
theorem t_fn{nn ar:Nat}{m:Env'->Mx Out}{ds:List D}{P:D->Wd->Prop}(hl:ds.length=ar)(h:Ok (m (ds.map (fun d=>some (Sl.val d))++List.replicate (nn - ar) none)) n (outP P)):Ok (mFn nn ar m ds) n P:=
 zCn hl (h.imp fun o n' q=>by cases o<;>exact q)
theorem t_set{i:Nat}{m:Env'->Mx D}{P:Out->Wd->Prop}(h:Ok (m ρ) n fun d n'=>P (.nx (ρ.set i (some (Sl.val d)))) n'):Ok (sSet i m ρ) n P:=t_bind (h.imp fun _ _ q=>t_pure q)
theorem t_own{i:Nat}{m:Env'->Mx PyData}{P:Out->Wd->Prop}(hl:Nat.ble (i+1) ρ.length=true)(h:Ok (m ρ) n fun d n'=>P (.nx (ρ.set i (some (Sl.own d)))) n'):Ok (sOwn i m ρ) n P:=t_bind (h.imp fun _ _ q=>by
 rw[if_pos (show i<ρ.length from Nat.le_of_ble_eq_true hl)];exact t_pure q)
theorem t_sret{m:Env'->Mx D}{P:Out->Wd->Prop}(h:Ok (m ρ) n fun d n'=>P (.rt d) n'):Ok (sRet m ρ) n P:=t_bind (h.imp fun _ _ q=>t_pure q)
theorem t_sexpr{m:Env'->Mx D}{P:Out->Wd->Prop}(h:Ok (m ρ) n fun _ n'=>P (.nx ρ) n'):Ok (z27 m ρ) n P:=t_bind (h.imp fun _ _ q=>t_pure q)
theorem t_snil{P:Out->Wd->Prop}(h:P (.nx ρ) n):Ok (sNil ρ) n P:=t_pure h
theorem t_sif{c:Env'->Mx Bool}{a b:Env'->Mx Out}{P:Out->Wd->Prop}(h:Ok (c ρ) n fun t n'=>Ok (if t=true then a ρ else b ρ) n' P):Ok (sIf c a b ρ) n P:=t_bind h
theorem t_bin{f:PyData->PyData->Option PyData}{a b:Env'->Mx D}{P:D->Wd->Prop}(h:Ok (a ρ) n fun x n1=>Ok (b ρ) n1 fun y n2=>Ok (Mx.opt ((onP2 f x y).map D.p)) n2 P):Ok (mBin f a b ρ) n P:=t_bind (h.imp fun _ _ q=>t_bind q)
theorem t_p2{f:PyData->PyData->Option α}{g:α->β}{x y:PyData}{P:β->Wd->Prop}(h:Ok (Mx.opt ((f x y).map g)) n P):Ok (Mx.opt ((onP2 f (.p x) (.p y)).map g)) n P:=h
theorem t_p1{f:PyData->Option α}{g:α->β}{x:PyData}{P:β->Wd->Prop}(h:Ok (Mx.opt ((f x).map g)) n P):Ok (Mx.opt ((onP f (.p x)).map g)) n P:=h
theorem t_p1'{f:PyData->Option α}{x:PyData}{P:α->Wd->Prop}(h:Ok (Mx.opt (f x)) n P):Ok (Mx.opt (onP f (.p x))) n P:=h
theorem t_p2'{f:PyData->PyData->Option α}{x y:PyData}{P:α->Wd->Prop}(h:Ok (Mx.opt (f x y)) n P):Ok (Mx.opt (onP2 f (.p x) (.p y))) n P:=h
theorem t_p2b{f:PyData->PyData->Option PyData}{x y:PyData}{P:Bool->Wd->Prop}(h:Ok (Mx.opt ((f x y).bind bool?)) n P):Ok (Mx.opt ((onP2 f (.p x) (.p y)).bind bool?)) n P:=h
theorem t_map{o:Option PyData}{x:PyData}{P:D->Wd->Prop}(e:o=some x)(h:P (.p x) n):Ok (Mx.opt (o.map D.p)) n P:=by subst e;exact t_some h
theorem t_boo{o:Option PyData}{b:Bool}{P:Bool->Wd->Prop}(e:o=some (.bool b))(h:P b n):Ok (Mx.opt (o.bind bool?)) n P:=by subst e;exact t_some h
theorem t_var{i:Nat}{d:D}{P:D->Wd->Prop}(e:slW ρ[i]?=some d)(h:P d n):Ok (mVar i ρ) n P:=wX e h
theorem t_val{i:Nat}{d:D}{P:D->Wd->Prop}(e:slV ρ[i]?=some d)(h:P d n):Ok (mVal i ρ) n P:=wX e h
theorem t_c{x:PyData}{P:D->Wd->Prop}(h:P (.p x) n):Ok (mC x ρ) n P:=t_pure h
theorem t_nil{P:List D->Wd->Prop}(h:P [] n):Ok (mNil ρ) n P:=t_pure h
theorem t_cons{m:Env'->Mx D}{ms:Env'->Mx (List D)}{P:List D->Wd->Prop}(h:Ok (m ρ) n fun x n1=>Ok (ms ρ) n1 fun xs n2=>P (x::xs) n2):Ok (zB m ms ρ) n P:=t_bind (h.imp fun _ _ q=>t_bind (q.imp fun _ _ q=>t_pure q))
theorem t_call{F:List D->Mx D}{ms:Env'->Mx (List D)}{P:D->Wd->Prop}(h:Ok (ms ρ) n fun ds n'=>Ok (F ds) n' P):Ok (zQ F ms ρ) n P:=t_bind h
theorem t_callB{f:List PyData->Option PyData}{ms:Env'->Mx (List D)}{P:D->Wd->Prop}(h:Ok (ms ρ) n fun ds n'=>Ok (Mx.opt ((onPs f ds).map D.p)) n' P):Ok (zV f ms ρ) n P:=t_bind h
theorem t_b1{f:List PyData->Option α}{g:α->β}{x:PyData}{P:β->Wd->Prop}(h:Ok (Mx.opt ((f [x]).map g)) n P):Ok (Mx.opt ((onPs f [.p x]).map g)) n P:=h
theorem t_b1'{f:List PyData->Option α}{x:PyData}{P:α->Wd->Prop}(h:Ok (Mx.opt (f [x])) n P):Ok (Mx.opt (onPs f [.p x])) n P:=h
theorem t_b2'{f:List PyData->Option α}{x y:PyData}{P:α->Wd->Prop}(h:Ok (Mx.opt (f [x,y])) n P):Ok (Mx.opt (onPs f [.p x,.p y])) n P:=h
theorem t_mseq{j:List PyData->PyData}{ms:Env'->Mx (List D)}{P:PyData->Wd->Prop}(h:Ok (ms ρ) n fun ds n'=>Ok (Mx.opt ((toP ds).bind fun xs=>if xs.length<=lim then some (j xs)else none)) n' P):Ok (mSeq j ms ρ) n P:=t_bind h
theorem t_s0{j:List PyData->PyData}{P:PyData->Wd->Prop}(h:P (j []) n):Ok (Mx.opt ((toP []).bind fun xs=>if xs.length<=lim then some (j xs)else none)) n P:=wX (by simp[toP,lim]) h
theorem t_s1{j:List PyData->PyData}{x:PyData}{P:PyData->Wd->Prop}(h:P (j [x]) n):Ok (Mx.opt ((toP [.p x]).bind fun xs=>if xs.length<=lim then some (j xs)else none)) n P:=wX (by simp[toP,lim]) h
theorem t_s2{j:List PyData->PyData}{x y:PyData}{P:PyData->Wd->Prop}(h:P (j [x,y]) n):Ok (Mx.opt ((toP [.p x,.p y]).bind fun xs=>if xs.length<=lim then some (j xs)else none)) n P:=wX (by simp[toP,lim]) h
theorem t_s3{j:List PyData->PyData}{x y z:PyData}{P:PyData->Wd->Prop}(h:P (j [x,y,z]) n):Ok (Mx.opt ((toP [.p x,.p y,.p z]).bind fun xs=>if xs.length<=lim then some (j xs)else none)) n P:=wX (by simp[toP,lim]) h
theorem t_s4{j:List PyData->PyData}{x y z u:PyData}{P:PyData->Wd->Prop}(h:P (j [x,y,z,u]) n):Ok (Mx.opt ((toP [.p x,.p y,.p z,.p u]).bind fun xs=>if xs.length<=lim then some (j xs)else none)) n P:=wX (by simp[toP,lim]) h
theorem t_mp{m:Env'->Mx PyData}{P:D->Wd->Prop}(h:Ok (m ρ) n fun x n'=>P (.p x) n'):Ok (mP m ρ) n P:=t_bind (h.imp fun _ _ q=>t_pure q)
theorem t_test{m:Env'->Mx D}{P:Bool->Wd->Prop}(h:Ok (m ρ) n fun x n'=>Ok (Mx.opt (onB x)) n' P):Ok (zq m ρ) n P:=t_bind h
theorem t_onb{b:Bool}{P:Bool->Wd->Prop}(h:P b n):Ok (Mx.opt (onB (.p (.bool b)))) n P:=t_some h
theorem t_tru{m:Env'->Mx D}{P:Bool->Wd->Prop}(h:Ok (m ρ) n fun x n'=>Ok (Mx.opt (onP truD x)) n' P):Ok (mTru m ρ) n P:=t_bind h
theorem t_trl{l:List PyData}{P:Bool->Wd->Prop}(h:P (!l.isEmpty) n):Ok (Mx.opt (onP truD (.p (.list l)))) n P:=t_some h
theorem t_trb{b:Bool}{P:Bool->Wd->Prop}(h:P b n):Ok (Mx.opt (onP truD (.p (.bool b)))) n P:=t_some h
theorem t_not{m:Env'->Mx Bool}{P:Bool->Wd->Prop}(h:Ok (m ρ) n fun b n'=>P (!b) n'):Ok (xm m ρ) n P:=t_bind (h.imp fun _ _ q=>t_pure q)
theorem t_and{a b:Env'->Mx Bool}{P:Bool->Wd->Prop}(h:Ok (a ρ) n fun t n'=>Ok (if t=true then b ρ else pure false) n' P):Ok (wv a b ρ) n P:=t_bind h
theorem t_or{a b:Env'->Mx Bool}{P:Bool->Wd->Prop}(h:Ok (a ρ) n fun t n'=>Ok (if t=true then pure true else b ρ) n' P):Ok (mOrT a b ρ) n P:=t_bind h
theorem t_andv{a b:Env'->Mx D}{P:D->Wd->Prop}(h:Ok (a ρ) n fun x n'=>Ok (Mx.opt (onB x)) n' fun t n2=>Ok (if t=true then b ρ else pure (.p (.bool false))) n2 P):Ok (uC a b ρ) n P:=t_bind (h.imp fun _ _ q=>t_bind q)
theorem t_mif{c:Env'->Mx Bool}{a b:Env'->Mx α}{P:α->Wd->Prop}(h:Ok (c ρ) n fun t n'=>Ok (if t=true then a ρ else b ρ) n' P):Ok (mIf c a b ρ) n P:=t_bind h
theorem t_un{f:PyData->Option PyData}{m:Env'->Mx D}{P:D->Wd->Prop}(h:Ok (m ρ) n fun x n'=>Ok (Mx.opt ((onP f x).map D.p)) n' P):Ok (mUn f m ρ) n P:=t_bind h
theorem t_chain{f f':PyData->PyData->Option PyData}{a b c:Env'->Mx D}{P:D->Wd->Prop}(h:Ok (a ρ) n fun x n1=>Ok (b ρ) n1 fun y n2=>Ok (Mx.opt ((onP2 f x y).bind bool?)) n2 fun k n3=>Ok (if k=true then(c ρ >>= fun z=>Mx.opt ((onP2 f' y z).map D.p))else pure (.p (.bool false))) n3 P):Ok (z23 f f' a b c ρ) n P:=
 t_bind (h.imp fun _ _ q=>t_bind (q.imp fun _ _ q=>t_bind q))
theorem t_rng{f:List PyData->Option (List PyData)}{ms:Env'->Mx (List D)}{P:List PyData->Wd->Prop}(h:Ok (ms ρ) n fun ds n'=>Ok (Mx.opt (onPs f ds)) n' P):Ok (mRng f ms ρ) n P:=t_bind h
theorem t_it{m:Env'->Mx D}{P:List PyData->Wd->Prop}(h:Ok (m ρ) n fun x n'=>Ok (Mx.opt (onP itD x)) n' P):Ok (mIt m ρ) n P:=t_bind h
theorem t_comp{mi:Env'->Mx (List PyData)}{mc:Env'->Mx Bool}{me:Env'->Mx D}{P:PyData->Wd->Prop}(h:Ok (mi ρ) n fun ds n'=>Ok (zc mc me ρ ds []) n' fun l n2=>P (.list l) n2):Ok (yS mi mc me ρ) n P:=t_bind (h.imp fun _ _ q=>t_bind (q.imp fun _ _ q=>t_pure q))
theorem t_for{mi:Env'->Mx (List PyData)}{τ:Env'->PyData->Option Env'}{body:Env'->Mx Out}{P:Out->Wd->Prop}(h:Ok (mi ρ) n fun ds n'=>Ok (xb τ body ds ρ) n' P):Ok (sFor mi τ body ρ) n P:=t_bind h
end
section
variable{α:Type}{l:List α}
end
end L2
local macro_rules | `(tactic| walk_at "st1")=>do
 let nm (x:String):Lean.Ident:=Lean.mkIdent ("L2."++x).toName
 let a<-(("t_seq t_nx t_set t_call t_cons t_nil t_c t_bin t_p2 t_sif t_itt t_itf t_iT t_test t_onb t_sret t_rt t_ort t_onx t_snil t_mp t_callB t_b1 t_b1' t_b2' t_mseq t_s0 t_s1 t_s2 t_s3 t_s4 t_sexpr t_not t_and t_or t_andv t_mif t_un t_chain t_p2b t_rng t_it t_comp t_for t_tru t_trl t_trb t_p1 t_p1' t_p2' t_bind t_pure t_some t_msome").splitOn " ").toArray.mapM fun x=>`(tactic| refine $(nm x) ?_)
 let b<-(("t_var t_own t_val").splitOn " ").toArray.mapM fun x=>`(tactic| refine $(nm x) (by with_unfolding_all exact rfl) ?_)
 let c<-(("fAdd_int fSub_int fLt_int fCmp_int fEq_int fNe_int fIx_t0 fIx_t1 fLen_t fLen_l fTuple_l fIsi_bi fIsi_ii fIsi_tt fIsi_ll").splitOn " ").toArray.mapM fun x=>`(tactic| refine $(nm "t_map") ($(nm x) ..) ?_)
 let d<-(("fCmp_int fLt_int").splitOn " ").toArray.mapM fun x=>`(tactic| refine $(nm "t_boo") ($(nm x) ..) ?_)
 let e<-(("t_it1 t_it0").splitOn " ").toArray.mapM fun x=>`(tactic| refine $(nm x) (by with_unfolding_all exact rfl) ?_)
 let l:=a++b++c++d++e
 `(tactic| with_reducible first $[| $l:tactic]*)
local macro_rules | `(tactic| walk_at "dl")=>do
 let l<-(("List.set_cons_zero List.set_cons_succ List.map List.cons_append List.nil_append List.replicate_succ List.replicate_zero Nat.reduceSub Option.map_some Option.bind_some Bool.not_true Bool.not_false").splitOn " ").toArray.mapM fun x=>`(Lean.Parser.Tactic.simpLemma| $(Lean.mkIdent x.toName):term)
 `(tactic| dsimp only[$l,*])
local macro_rules | `(tactic| walk_at "e")=>`(tactic| try first | (walk_at "st1";repeat walk_at "st1";(try (walk_at "dl";repeat walk_at "st1";try walk_at "dl"))) | (walk_at "dl";repeat walk_at "st1";try walk_at "dl"))
namespace L2
open PySem
theorem uG:∀{l r:List Int},l.Pairwise (·<·)->r.Pairwise (·<·)->(∀x,x∈l↔x∈r)->l=r
 | [],[],_,_,_=>rfl
 | [],y::r,_,_,h=>absurd ((h y).mpr List.mem_cons_self) (by simp)
 | x::l,[],_,_,h=>absurd ((h x).mp List.mem_cons_self) (by simp)
 | x::l,y::r,hl,hr,h=>by
  obtain⟨l1,l2⟩:=List.pairwise_cons.mp hl;obtain⟨r1,r2⟩:=List.pairwise_cons.mp hr;have e:x=y:=by
   rcases List.mem_cons.mp ((h x).mp List.mem_cons_self)with e | hx
   ·exact e
   ·rcases List.mem_cons.mp ((h y).mpr List.mem_cons_self)with e | hy
    ·exact e.symm
    ·have a:=r1 x hx;have b:=l1 y hy;omega
  subst e;congr 1;refine uG l2 r2 fun z=>⟨fun hz=>?_,fun hz=>?_⟩
  ·rcases List.mem_cons.mp ((h z).mp (List.mem_cons_of_mem _ hz))with e | hz'
   ·have:=l1 z hz;omega
   ·exact hz'
  ·rcases List.mem_cons.mp ((h z).mpr (List.mem_cons_of_mem _ hz))with e | hz'
   ·have:=r1 z hz;omega
   ·exact hz'
theorem wV{α:Type}{l:List α}{k:Nat}(h:k<l.length):l.take (k+1)=l.take k++[l[k]]:=by rw[List.take_succ,List.getElem?_eq_getElem h];rfl
theorem z55:∀{l:List Int},(∀x∈l,0<=x/\x<8)->toN8 (l.map PyData.int)=some (l.map Int.toNat)
 | [],_=>rfl
 | x::l,h=>by
  simp only[List.map_cons,toN8];rw[if_pos (h x List.mem_cons_self),z55 fun y hy=>h y (List.mem_cons_of_mem _ hy)];rfl
theorem z57{l:List Int}(h:∀x∈l,0<=x/\x<8):∃r:List Int,xr (.list (l.map PyData.int))=some (.list (r.map PyData.int))/\r.Pairwise (·<·)/\∀x,x∈r↔x∈l:=by
 refine⟨(lst (m8 (l.map Int.toNat))).map nI,?_,?_,fun x=>?_⟩
 ·simp only[xr];rw[z55 h,Option.map_some,List.map_map];rfl
 ·exact List.pairwise_map.mpr ((z0G _).imp fun{a b} h=>by unfold nI;omega)
 ·have h8:∀n∈l.map Int.toNat,n<8:=fun n hn=>by
   obtain⟨x,hx,rfl⟩:=List.mem_map.mp hn
   have:=h x hx;omega
  rw[List.mem_map];constructor
  ·rintro⟨k,hk,rfl⟩;obtain⟨y,hy,e⟩:=List.mem_map.mp ((z8g h8 k).mp hk)
   have:=h y hy
   have:nI k=y:=by unfold nI;omega
   rw[this];exact hy
  ·intro hx
   have:=h x hx;exact⟨x.toNat,(z8g h8 _).mpr (List.mem_map.mpr ⟨x,hx,rfl⟩),by unfold nI;omega⟩
theorem zu{α:Type}(f:α->Bool):∀l:List α,xo (l.map fun x=>PyData.bool (f x))=some (l.map f)
 | []=>rfl
 | x::l=>by simp only[List.map_cons,xo,zu f l,Option.map_some]
theorem z3a{e:Env'->Mx D}{ρ:Env'}{n:Wd}{ds:List PyData}{P:List PyData->Wd->Prop}(f:PyData->PyData)(step:∀d∈ds,Ok (e (ρ++[some (Sl.val (.p d))])) n fun y n2=>y=.p (f d)/\n2=n)(h:P (ds.map f) n):Ok (zc mYes e ρ ds []) n P:=by
 refine z7v (f:=fun d=>some (f d)) (fun d hd=>.inr ⟨f d,rfl,?_⟩) ?_
 ·unfold mYes;exact(y4 _ _).mpr ⟨rfl,rfl,step d hd⟩
 ·rw[show ds.filterMap (fun d=>some (f d))=ds.map f by simp];exact h
theorem zw{α β:Type}{e:Env'->Mx D}{ρ:Env'}{n:Wd}{J:α->PyData}{J':β->PyData}{l:List α}{P:List PyData->Wd->Prop}(f:α->β)(step:∀a∈l,Ok (e (ρ++[some (Sl.val (.p (J a)))])) n fun y n2=>y=.p (J' (f a))/\n2=n)(h:P ((l.map f).map J') n):Ok (zc mYes e ρ (l.map J) []) n P:=by
 refine wC (I:=fun k acc n'=>n'=n/\acc=((l.take k).map f).map J') (fun k acc n' hk hI=>?_) (fun acc n' hI=>?_) ⟨rfl,by simp⟩
 ·obtain⟨rfl,rfl⟩:=hI;have hk':k<l.length:=by simpa using hk
  rw[List.getElem_map];unfold mYes;refine(y4 _ _).mpr ⟨fun _=>(step _ (List.getElem_mem hk')).imp fun y n2 ⟨e1,e2⟩=>⟨_,e1,e2,?_⟩,fun z=>(nomatch z)⟩;rw[wV hk',List.map_append,List.map_append];rfl
 ·obtain⟨rfl,rfl⟩:=hI;rw[List.length_map,List.take_length];exact h
theorem z1w{α:Type}{c:Env'->Mx Bool}{e:Env'->Mx D}{ρ:Env'}{n:Wd}{J:α->PyData}{l:List α}{P:List PyData->Wd->Prop}(f:α->Bool)(hc:∀a∈l,Ok (c (ρ++[some (Sl.val (.p (J a)))])) n fun t n2=>t=f a/\n2=n)(he:∀a∈l,f a=true->Ok (e (ρ++[some (Sl.val (.p (J a)))])) n fun y n2=>y=.p (J a)/\n2=n)(h:P ((l.filter f).map J) n):Ok (zc c e ρ (l.map J) []) n P:=by
 refine wC (I:=fun k acc n'=>n'=n/\acc=((l.take k).filter f).map J) (fun k acc n' hk hI=>?_) (fun acc n' hI=>?_) ⟨rfl,by simp⟩
 ·obtain⟨rfl,rfl⟩:=hI;have hk':k<l.length:=by simpa using hk
  rw[List.getElem_map];refine(hc _ (List.getElem_mem hk')).imp fun t n2 ⟨e1,e2⟩=>?_;subst e1 e2;refine⟨fun ht=>(he _ (List.getElem_mem hk') ht).imp fun y n3 ⟨e3,e4⟩=>⟨_,e3,e4,?_⟩,fun ht=>⟨rfl,?_⟩⟩
  ·rw[wV hk',List.filter_append,List.map_append];simp only[List.filter_cons,ht,List.filter_nil,if_true,List.map_cons,List.map_nil]
  ·rw[wV hk',List.filter_append,List.map_append];simp only[List.filter_cons,ht,List.filter_nil,Bool.false_eq_true,if_false,List.map_nil,List.append_nil]
 ·obtain⟨rfl,rfl⟩:=hI;rw[List.length_map,List.take_length];exact h
theorem z7N{α:Type}{e:Env'->Mx D}{ρ:Env'}{n:Nat}{os:List Ob}{ds:List PyData}{P:List PyData->Wd->Prop}(J:α->PyData)(Q:α->Prop)(c:Nat)(step:∀d∈ds,∀n',n'<=n+c*ds.length->Ok (e (ρ++[some (Sl.val (.p d))])) ⟨n',os⟩ fun y w=>∃z n2,w=⟨n2,os⟩/\y=.p (J z)/\Q z/\n2<=n'+c)
  (h:∀(l:List α) (n':Nat),l.length=ds.length->(∀x∈l,Q x)->n'<=n+c*ds.length->P (l.map J) ⟨n',os⟩):Ok (zc mYes e ρ ds []) ⟨n,os⟩ P:=by
 refine wC (I:=fun k acc w=>∃n',w=⟨n',os⟩/\k<=ds.length/\n'<=n+c*k/\∃l:List α,acc=l.map J/\l.length=k/\∀x∈l,Q x) (fun k acc w hk hI=>?_) (fun acc w hI=>?_) ⟨n,rfl,Nat.zero_le _,by simp,[],rfl,rfl,by simp⟩
 ·obtain⟨n',rfl,_,hn,l,rfl,hl,hq⟩:=hI;unfold mYes;refine(y4 _ _).mpr ⟨fun _=>?_,fun z=>(nomatch z)⟩;refine(step ds[k] (List.getElem_mem hk) n' (Nat.le_trans hn (Nat.add_le_add_left (Nat.mul_le_mul_left c (Nat.le_of_lt hk)) n))).imp fun y w ⟨z,n2,ew,ey,hz,hn2⟩=>?_;subst ew;refine⟨J z,ey,n2,rfl,hk,?_,l++[z],by simp,by simp[hl],fun x hx=>?_⟩
  ·rw[Nat.mul_succ];omega
  ·rcases List.mem_append.mp hx with hx | hx
   ·exact hq x hx
   ·rw[List.mem_singleton.mp hx];exact hz
 ·obtain⟨n',rfl,_,hn,l,rfl,hl,hq⟩:=hI;exact h l n' hl hq hn
theorem zCS{l:List PyData}(h:l.length<10000):itD (.list l)=some l:=by simp only[itD];rw[if_pos (by unfold lim;omega)]
theorem z3z{l:List PyData}(h:l.length<10000):itD (.tuple l)=some l:=by simp only[itD];rw[if_pos (by unfold lim;omega)]
theorem z6A{α:Type}{R:α->α->Prop}{l:List α}(h:l.Pairwise R){i:Nat}{x y:α}(e1:l[i]?=some x)(e2:l[i+1]?=some y):R x y:=by
 obtain⟨h1,rfl⟩:=List.getElem?_eq_some_iff.mp e1;obtain⟨h2,rfl⟩:=List.getElem?_eq_some_iff.mp e2;exact List.pairwise_iff_getElem.mp h i (i+1) h1 h2 (Nat.lt_succ_self i)
noncomputable def upto(N:Nat):List Int:=(List.range N).map fun(i:Nat)=>(i:Int)
theorem mem_upto{N:Nat}{x:Int}:x∈upto N↔0<=x/\x<(N:Int):=by
 unfold upto;simp only[List.mem_map,List.mem_range];exact⟨fun⟨k,hk,e⟩=>by omega,fun h=>⟨x.toNat,by omega,by omega⟩⟩
theorem zR(N:Nat):(upto N).length=N:=by simp[upto]
theorem uS(N:Nat):(upto N).Pairwise (·<·):=by
 unfold upto;exact List.pairwise_map.mpr (List.pairwise_lt_range.imp fun h=>by omega)
theorem y3(m:Int)(h:0<=m):rngD 0 m=(upto m.toNat).map PyData.int:=by
 unfold rngD upto;simp[Function.comp_def]
theorem uw:∀l:List Int,PyData.canLayAll0 (l.map PyData.int)=true
 | []=>rfl
 | q::r=>by rw[List.map_cons];simp only[PyData.canLayAll0,uw r,Bool.and_true];rfl
theorem ur:∀l r:List Int,PyData.eqvAll (l.map PyData.int) (r.map PyData.int)=decide (l=r)
 | [],[]=>by simp[PyData.eqvAll]
 | [],y::r=>by simp[PyData.eqvAll]
 | x::l,[]=>by simp[PyData.eqvAll]
 | x::l,y::r=>by
  rw[List.map_cons,List.map_cons];simp only[PyData.eqvAll,z2Z,ur l r];by_cases e:x=y<;>by_cases e2:l=r<;>simp[e,e2]
theorem z7x(c:List Int):fIn false .none (.list (c.map PyData.int))=some (.bool false):=by
 simp only[fIn];rw[if_pos ⟨rfl,uw c,by simp[PyData.depth]⟩];rw[show((c.map PyData.int).any fun y=>PyData.eqv y .none)=false from by
  rw[List.any_eq_false];intro y hy;obtain⟨z,_,rfl⟩:=List.mem_map.mp hy;simp[PyData.eqv]]
 rfl
theorem z3l{l:List Int}{i:Int}(h0:0<=i)(h:i<(l.length:Int)):fIx (.tuple (l.map PyData.int)) (.int i)=some (.int (l.getD i.toNat 0)):=by
 refine z02 h0 ?_;rw[List.getElem?_map,List.getElem?_eq_getElem (by omega),List.getD_eq_getElem?_getD,List.getElem?_eq_getElem (by omega)];rfl
theorem z5X{α:Type}{J:α->PyData}{l:List α}{i:Int}{d:α}(h0:0<=i)(h:i<(l.length:Int)):fIx (.tuple (l.map J)) (.int i)=some (J (l.getD i.toNat d)):=by
 refine z02 h0 ?_;rw[List.getElem?_map,List.getElem?_eq_getElem (by omega),List.getD_eq_getElem?_getD,List.getElem?_eq_getElem (by omega)];rfl
theorem yq{α:Type}{l:List α}{i:Nat}{d:α}(h:i<l.length):l.getD i d∈l:=by
 rw[List.getD_eq_getElem?_getD,List.getElem?_eq_getElem h];exact List.getElem_mem h
noncomputable def zDF(l:List Int):PyData:=.dict (l.map fun x=>(.int x,.bool true))
def Er{α:Type}(m:Mx α)(n:Wd)(c:Str)(n1:Wd):Prop:=m n=.err c n1
section
variable{α β:Type}{n n1:Wd}{c:Str}{ρ:Env'}
end
noncomputable abbrev tupI(st:List Int):PyData:=.tuple (st.map PyData.int)
theorem xw:∀l:List Int,(z1S (l.map PyData.int)).isSome=true
 | []=>rfl
 | x::l=>by
  have:=xw l;obtain⟨k,e⟩:=Option.isSome_iff_exists.mp this;simp only[List.map_cons,z1S,keyD,e,Option.isSome_some]
theorem xQ(a b:List Int):PyData.eqv (tupI a) (tupI b)=decide (a=b):=by simp only[PyData.eqv,ur]
section
variable{α:Type}{f:Int->α->Option α}
noncomputable def wY(f:Int->α->Option α)(s:α)(row:List Int):Option α:=row.foldl (fun o d=>o.bind (f d)) (some s)
theorem xv(f:Int->α->Option α)(s:α)(row:List Int)(d:Int):wY f s (row++[d])=(wY f s row).bind (f d):=by simp[wY]
structure Bfs(f:Int->α->Option α)(D:Nat)(s0:α)(l:List (α×List Int))(k c:Nat):Prop where
 nd:(l.map (·.1)).Nodup
 hd:l[0]?=some (s0,[])
 sound:∀q∈l,wY f s0 q.2=some q.1
 doors:∀q∈l,∀d∈q.2,0<=d/\d<(D:Int)
 mono:l.Pairwise fun a b=>a.2.length<=b.2.length
 near:∀q:α×List Int,l[k]?=some q->∀p∈l,p.2.length<=q.2.length+1
 deep:∀(i:Nat) (q:α×List Int),l[i]?=some q->q.2.length<=i
 closed:∀(i d:Nat) (q:α×List Int),l[i]?=some q->d<D->(i<k\/(i=k/\d<c))->∀s',f (d:Int) q.1=some s'->∃p∈l,p.1=s'/\p.2.length<=q.2.length+1
variable{D:Nat}{s0:α}{l:List (α×List Int)}{k c:Nat}
theorem Bfs.init:Bfs f D s0 [(s0,[])] 0 0:=
 ⟨by simp,rfl,fun q h=>by rw[List.mem_singleton.mp h];rfl,fun q h=>by rw[List.mem_singleton.mp h];simp,by simp,fun q _ p h=>by rw[List.mem_singleton.mp h];simp,fun i q h=>by
  cases i with
  | zero=>simp at h;rw[<-h];simp
  | succ i=>simp at h,fun i d q _ _ h=>by omega⟩
theorem Bfs.skip{q:α×List Int}(B:Bfs f D s0 l k c)(hq:l[k]?=some q)(h:∀s',f (c:Int) q.1=some s'->∃p∈l,p.1=s'):Bfs f D s0 l k (c+1):=by
 refine⟨B.nd,B.hd,B.sound,B.doors,B.mono,B.near,B.deep,fun i d q' h1 h2 h3 s' hs=>?_⟩;by_cases e:i=k/\d=c
 ·obtain⟨rfl,rfl⟩:=e;rw[hq]at h1;cases h1;obtain⟨p,hp,e⟩:=h s' hs;exact⟨p,hp,e,B.near q hq p hp⟩
 ·exact B.closed i d q' h1 h2 (by omega) s' hs
theorem Bfs.add{q:α×List Int}{s':α}(B:Bfs f D s0 l k c)(hq:l[k]?=some q)(hc:c<D)(hs:f (c:Int) q.1=some s')(hn:∀p∈l,p.1≠s'):Bfs f D s0 (l++[(s',q.2++[(c:Int)])]) k (c+1):=by
 have hqm:q∈l:=List.mem_of_getElem? hq;have hkl:k<l.length:=(List.getElem?_eq_some_iff.mp hq).1;have old:∀{i:Nat} {p:α×List Int},l[i]?=some p->(l++[(s',q.2++[(c:Int)])])[i]?=some p:=fun{i p} h=>by
  rw[List.getElem?_append_left (List.getElem?_eq_some_iff.mp h).1];exact h
 refine⟨?_,old B.hd,fun p hp=>?_,fun p hp=>?_,?_,fun q' h p hp=>?_,fun i p h=>?_,fun i d q' h1 h2 h3 s2 hs2=>?_⟩
 ·rw[List.map_append];refine List.nodup_append.mpr ⟨B.nd,by simp,fun a ha b hb=>?_⟩;obtain⟨p,hp,rfl⟩:=List.mem_map.mp ha
  have:b=s':=by simpa using hb
  rw[this];exact hn p hp
 ·rcases List.mem_append.mp hp with hp | hp
  ·exact B.sound p hp
  ·rw[List.mem_singleton.mp hp];show wY f s0 (q.2++[(c:Int)])=some s';rw[xv,B.sound q hqm];exact hs
 ·rcases List.mem_append.mp hp with hp | hp
  ·exact B.doors p hp
  ·rw[List.mem_singleton.mp hp];intro d hd;rcases List.mem_append.mp hd with hd | hd
   ·exact B.doors q hqm d hd
   ·rw[List.mem_singleton.mp hd];omega
 ·rw[List.pairwise_append];refine⟨B.mono,by simp,fun a ha b hb=>?_⟩;rw[List.mem_singleton.mp hb]
  have:=B.near q hq a ha;simp;omega
 ·rw[old hq]at h;cases h;rcases List.mem_append.mp hp with hp | hp
  ·exact B.near q hq p hp
  ·rw[List.mem_singleton.mp hp];simp
 ·by_cases hi:i<l.length
  ·rw[List.getElem?_append_left hi]at h;exact B.deep i p h
  ·rw[List.getElem?_append_right (by omega)]at h;have h0:i - l.length=0:=by
    rcases Nat.eq_zero_or_pos (i - l.length)with z | z
    ·exact z
    ·rw[List.getElem?_eq_none (by simp;omega)]at h;cases h
   rw[h0]at h;simp at h;rw[<-h]
   have:=B.deep k q hq;simp;omega
 ·by_cases hi:i<l.length
  ·rw[List.getElem?_append_left hi]at h1;by_cases e:i=k/\d=c
   ·obtain⟨rfl,rfl⟩:=e;rw[hq]at h1;cases h1;rw[hs]at hs2;cases hs2;exact⟨_,List.mem_append_right _ (List.mem_singleton.mpr rfl),rfl,by simp⟩
   ·obtain⟨p,hp,e1,e2⟩:=B.closed i d q' h1 h2 (by omega) s2 hs2;exact⟨p,List.mem_append_left _ hp,e1,e2⟩
  ·omega
theorem Bfs.next(B:Bfs f D s0 l k D):Bfs f D s0 l (k+1) 0:=by
 refine⟨B.nd,B.hd,B.sound,B.doors,B.mono,fun q hq p hp=>?_,B.deep,fun i d q h1 h2 h3=>B.closed i d q h1 h2 (by omega)⟩;obtain⟨h1,rfl⟩:=List.getElem?_eq_some_iff.mp hq;have hk:k<l.length:=by omega
 have a:=B.near _ (List.getElem?_eq_getElem hk) p hp;have b:=List.pairwise_iff_getElem.mp B.mono k (k+1) hk h1 (Nat.lt_succ_self k);omega
theorem Bfs.all(B:Bfs f D s0 l l.length 0):∀(row:List Int),(∀d∈row,0<=d/\d<(D:Int))->∀s,wY f s0 row=some s->∃p∈l,p.1=s/\p.2.length<=row.length:=by
 intro row;have gen:∀(n:Nat) (row:List Int),row.length=n->(∀d∈row,0<=d/\d<(D:Int))->∀s,wY f s0 row=some s->∃p∈l,p.1=s/\p.2.length<=row.length:=by
  intro n
  induction n with
  | zero=>
   intro row hr _ s hs
   have:row=[]:=List.length_eq_zero_iff.mp hr;subst this;refine⟨(s0,[]),List.mem_of_getElem? B.hd,?_,by simp⟩
   have:some s0=some s:=hs;cases this;rfl
  | succ n ih=>
   intro row hr hd s hs;have hne:row≠[]:=fun z=>by rw[z]at hr;simp at hr
   obtain⟨r,d,e⟩:∃r d,row=r++[d]:=⟨row.dropLast,row.getLast hne,(List.dropLast_concat_getLast hne).symm⟩;subst e;rw[xv]at hs;obtain⟨s1,h1,h2⟩:=Option.bind_eq_some_iff.mp hs;have hrl:r.length=n:=by simpa using hr
   obtain⟨p,hp,e1,e2⟩:=ih r hrl (fun d hd'=>hd d (List.mem_append_left _ hd')) s1 h1;obtain⟨i,hi,e3⟩:=List.mem_iff_getElem.mp hp;have hdd:=hd d (List.mem_append_right _ (List.mem_singleton.mpr rfl));obtain⟨p',hp',e4,e5⟩:=B.closed i d.toNat p (by rw[List.getElem?_eq_getElem hi,e3]) (by omega) (.inl hi) s (by rw[show((d.toNat:Nat):Int)=d by omega,e1];exact h2);exact⟨p',hp',e4,by simp;omega⟩
 exact gen row.length row rfl
end
noncomputable def gP(l:List (List Int×List Int)):List (PyData×PyData):=l.map fun kv=>(tupI kv.1,tupI kv.2)
theorem z3U(l:List (List Int×List Int)):((gP l).all fun kv=>xz kv.1)=true:=by
 rw[List.all_eq_true];intro kv h;obtain⟨q,_,rfl⟩:=List.mem_map.mp h;rfl
theorem uo(l:List (List Int×List Int))(k:List Int):yE (gP l) (tupI k)=true:=by
 simp only[yE,xw,z3U,Bool.and_true]
theorem z3s{l:List (List Int×List Int)}(h:l≠[])(k:List Int):wE (gP l) (tupI k)=true:=by
 simp only[wE,xw,z3U,Bool.and_true,Bool.true_and];cases l with
 | nil=>exact absurd rfl h
 | cons x r=>rfl
theorem z8P:∀(l:List (List Int×List Int)) (k:List Int),((gP l).any fun kv=>PyData.eqv kv.1 (tupI k))=(l.any fun kv=>decide (kv.1=k))
 | [],k=>rfl
 | (c,v)::r,k=>by
  have ih:=z8P r k;unfold gP at ih |-;rw[List.map_cons,List.any_cons,List.any_cons,ih];simp only[xQ]
theorem z0i:∀(l:List (List Int×List Int)) (k:List Int),xy (gP l) (tupI k)=((l.find? fun kv=>decide (kv.1=k)).map (·.2)).map tupI
 | [],k=>rfl
 | (c,v)::r,k=>by
  have ih:=z0i r k;unfold xy gP at ih |-;rw[List.map_cons,List.find?_cons,List.find?_cons];simp only[xQ];by_cases e:c=k
  ·simp[e]
  ·simp only[e,decide_false];exact ih
theorem zA1{l:List (List Int×List Int)}(hl:l.length<10000){k:List Int}(hn:∀p∈l,p.1≠k)(v:List Int):putD (gP l) (tupI k) (tupI v)=some (gP (l++[(k,v)])):=by
 unfold putD;rw[if_pos ⟨uo l k,by unfold lim;simp[gP];omega⟩];congr 1;unfold dPut;rw[z8P,if_neg (by
  rw[Bool.not_eq_true,List.any_eq_false];intro p hp;simpa using hn p hp)]
 unfold gP;rw[List.map_append];rfl
theorem z1F{l:List (List Int×List Int)}(nd:(l.map (·.1)).Nodup){q:List Int×List Int}(h:q∈l):fIx (.dict (gP l)) (tupI q.1)=some (tupI q.2):=by
 have hne:l≠[]:=fun z=>by rw[z]at h;cases h
 simp only[fIx];rw[if_pos (z3s hne _),z0i]
 have:(l.find? fun kv=>decide (kv.1=q.1))=some q:=by
  induction l with
  | nil=>cases h
  | cons p r ih=>
   rw[List.map_cons,List.nodup_cons]at nd;rw[List.find?_cons];rcases List.mem_cons.mp h with rfl | h
   ·simp
   ·have hne2:p.1≠q.1:=fun e=>nd.1 (e▸List.mem_map.mpr ⟨q,h,rfl⟩);simp only[hne2,decide_false];exact ih nd.2 h (fun z=>by rw[z]at h;cases h)
 rw[this];rfl
theorem z33{l:List (List Int×List Int)}(h:l≠[])(neg:Bool)(k:List Int):fIn neg (tupI k) (.dict (gP l))=some (.bool (if neg then !(l.any fun p=>decide (p.1=k))else l.any fun p=>decide (p.1=k))):=by
 simp only[fIn];rw[if_pos (z3s h k),z0i,Option.isSome_map,Option.isSome_map,List.isSome_find?]
noncomputable def subs:List Int->List (List Int)
 | []=>[[]]
 | x::l=>subs l++(subs l).map (x::·)
theorem z3E:∀l:List Int,(subs l).length=2 ^ l.length
 | []=>rfl
 | x::l=>by
  rw[subs,List.length_append,List.length_map,z3E l,List.length_cons,Nat.pow_succ];omega
theorem uN:∀{l st:List Int},st.Sublist l->st∈subs l
 | _,_,.slnil=>by simp[subs]
 | _,_,.cons x h=>List.mem_append_left _ (uN h)
 | _,_,.cons₂ x h=>List.mem_append_right _ (List.mem_map.mpr ⟨_,uN h,rfl⟩)
theorem z5z{st:List Int}(h:st.Pairwise (·<·))(hin:∀x∈st,0<=x/\x<8):st∈subs (upto 8):=by
 have e:st=(upto 8).filter fun x=>decide (x∈st):=uG h ((uS 8).filter _) fun x=>by
  rw[List.mem_filter,decide_eq_true_iff];exact⟨fun hx=>⟨mem_upto.mpr (by have:=hin x hx;omega),hx⟩,fun hx=>hx.2⟩
 rw[e];exact uN List.filter_sublist
theorem zBC{ks:List (List Int)}(nd:ks.Nodup)(h:∀st∈ks,st.Pairwise (·<·)/\∀x∈st,0<=x/\x<8):ks.length<=256:=by
 have:=nd.length_le_of_subset (l₂:=subs (upto 8)) fun st hst=>z5z (h st hst).1 (h st hst).2;rw[z3E,zR]at this;exact this
noncomputable def uA(w:Int->Int)(r:List Int):Int:=(r.map w).sum
theorem z4R(w:Int->Int)(r:List Int)(d:Int):uA w (r++[d])=uA w r+w d:=by simp[uA]
noncomputable def wKey(w:Int->Int)(r:List Int):List Int:=uA w r::(r.length:Int)::r
def wLe(w:Int->Int)(r r':List Int):Prop:=HT.lexLt (wKey w r') (wKey w r)=false
theorem z31{a b c:List Int}(h1:HT.lexLt b a=false)(h2:HT.lexLt c b=false):HT.lexLt c a=false:=by
 cases h:HT.lexLt c a with
 | false=>rfl
 | true=>
  cases h3:HT.lexLt a b with
  | true=>rw[yi h h3]at h2;cases h2
  | false=>
   have:=z05 h1 h3;subst this;rw[h]at h2;cases h2
theorem z0g{a b:List Int}(h:HT.lexLt a b=true):HT.lexLt b a=false:=by
 cases h2:HT.lexLt b a with
 | false=>rfl
 | true=>have:=yi h h2;rw[wD]at this;cases this
theorem wLe.refl(w:Int->Int)(r:List Int):wLe w r r:=wD _
theorem wLe.trans{w:Int->Int}{a b c:List Int}(h1:wLe w a b)(h2:wLe w b c):wLe w a c:=z31 h1 h2
theorem z3G:∀{a b:List Int} (x:Int),a.length=b.length->HT.lexLt (a++[x]) (b++[x])=HT.lexLt a b
 | [],[],x,_=>by simp[HT.lexLt_cons,HT.lexLt_nil_nil]
 | [],_::_,_,h=>by simp at h
 | _::_,[],_,h=>by simp at h
 | y::a,z::b,x,h=>by
  simp only[List.cons_append,HT.lexLt_cons];rw[z3G x (by simpa using h)]
theorem z1i:∀{a b:List Int} (x y:Int),a.length=b.length->HT.lexLt a b=true->HT.lexLt (a++[x]) (b++[y])=true
 | [],[],_,_,_,h=>by simp[HT.lexLt_nil_nil]at h
 | [],_::_,_,_,h,_=>by simp at h
 | _::_,[],_,_,h,_=>by simp at h
 | u::a,z::b,x,y,h,k=>by
  simp only[List.cons_append,HT.lexLt_cons]at k |-;split at k
  next e=>rw[if_pos e];exact z1i x y (by simpa using h) k
  next e=>rw[if_neg e];exact k
theorem z6Q{w:Int->Int}{a b:List Int}:wLe w a b↔uA w a<uA w b\/uA w a=uA w b/\(a.length<b.length\/a.length=b.length/\HT.lexLt b a=false):=by
 unfold wLe wKey;simp only[HT.lexLt_cons];by_cases h1:uA w b=uA w a
 ·rw[if_pos h1];by_cases h2:(b.length:Int)=(a.length:Int)
  ·rw[if_pos h2];constructor
   ·intro h;exact .inr ⟨h1.symm,.inr ⟨by omega,h⟩⟩
   ·rintro(h | ⟨_,h | ⟨_,h⟩⟩)
    ·omega
    ·omega
    ·exact h
  ·rw[if_neg h2,decide_eq_false_iff_not];constructor
   ·intro h;exact .inr ⟨h1.symm,.inl (by omega)⟩
   ·rintro(h | ⟨_,h | ⟨h,_⟩⟩)<;>omega
 ·rw[if_neg h1,decide_eq_false_iff_not];constructor
  ·intro h;exact .inl (by omega)
  ·rintro(h | ⟨h,_⟩)<;>omega
theorem wLe.snoc{w:Int->Int}{a b:List Int}(d:Int)(h:wLe w a b):wLe w (a++[d]) (b++[d]):=by
 rw[z6Q]at h |-;simp only[z4R,List.length_append,List.length_singleton];rcases h with h | ⟨h,h2 | ⟨h2,h3⟩⟩
 ·left;omega
 ·right;exact⟨by omega,.inl (by omega)⟩
 ·right;exact⟨by omega,.inr ⟨by omega,by rw[z3G d h2.symm];exact h3⟩⟩
section
variable{α:Type}{f:Int->α->α}{w:Int->Int}{D:Nat}{goal:α->Bool}{s0:α}{dn:List (α×List Int)}{wt wt':List (List Int)}{x:List Int}
noncomputable def zv(f:Int->α->α)(s:α)(row:List Int):α:=row.foldl (fun s d=>f d s) s
theorem xJ(f:Int->α->α)(s:α)(row:List Int)(d:Int):zv f s (row++[d])=f d (zv f s row):=by simp[zv]
def DoorsIn(D:Nat)(r:List Int):Prop:=∀d∈r,0<=d/\d<(D:Int)
theorem DoorsIn.snoc{r:List Int}{d:Nat}(h:DoorsIn D r)(hd:d<D):DoorsIn D (r++[(d:Int)]):=fun x hx=>by
 rcases List.mem_append.mp hx with hx | hx
 ·exact h x hx
 ·rw[List.mem_singleton.mp hx];omega
end
noncomputable def w0:Int->Int:=fun _=>0
theorem z6n:∀r:List Int,uA w0 r=0
 | []=>rfl
 | _::r=>by
  have:=z6n r;unfold uA at this |-;rw[List.map_cons,List.sum_cons,this];rfl
def sLt(a b:List Int):Prop:=a.length<b.length\/a.length=b.length/\HT.lexLt a b=true
theorem sLe_iff{a b:List Int}:wLe w0 a b↔a.length<b.length\/a.length=b.length/\HT.lexLt b a=false:=by
 rw[z6Q,z6n,z6n];constructor
 ·rintro(h | ⟨_,h⟩)
  ·omega
  ·exact h
 ·intro h;exact .inr ⟨rfl,h⟩
theorem sLt.le{a b:List Int}(h:sLt a b):wLe w0 a b:=by
 rw[sLe_iff];rcases h with h | ⟨h,k⟩
 ·exact .inl h
 ·exact .inr ⟨h,z0g k⟩
theorem sLt.trans{a b c:List Int}(h:sLt a b)(k:sLt b c):sLt a c:=by
 rcases h with h | ⟨h,h2⟩<;>rcases k with k | ⟨k,k2⟩
 ·exact .inl (by omega)
 ·exact .inl (by omega)
 ·exact .inl (by omega)
 ·exact .inr ⟨by omega,yi h2 k2⟩
theorem sLt.snoc{a b:List Int}(h:sLt a b)(x y:Int):sLt (a++[x]) (b++[y]):=by
 rcases h with h | ⟨h,h2⟩
 ·exact .inl (by simp;omega)
 ·exact .inr ⟨by simp;omega,z1i x y h h2⟩
theorem z3o:∀(a:List Int) {x y:Int},x<y->HT.lexLt (a++[x]) (a++[y])=true
 | [],x,y,h=>by
  show HT.lexLt [x] [y]=true;rw[HT.lexLt_cons,if_neg (by omega)];exact decide_eq_true h
 | z::a,x,y,h=>by
  show HT.lexLt (z::(a++[x])) (z::(a++[y]))=true;rw[HT.lexLt_cons,if_pos rfl];exact z3o a h
theorem sLt.last(a:List Int){x y:Int}(h:x<y):sLt (a++[x]) (a++[y]):=.inr ⟨by simp,z3o a h⟩
section
variable{α:Type}{f:Int->α->Option α}{D:Nat}{s0:α}{l:List (α×List Int)}{k c:Nat}
structure BfsL(f:Int->α->Option α)(D:Nat)(l:List (α×List Int))(k c:Nat):Prop where
 ris:l.Pairwise fun a b=>sLt a.2 b.2
 near:∀q:α×List Int,l[k]?=some q->∀p∈l,sLt p.2 (q.2++[(c:Int)])
 closed:∀(i d:Nat) (q:α×List Int),l[i]?=some q->d<D->(i<k\/(i=k/\d<c))->∀s',f (d:Int) q.1=some s'->∃p∈l,p.1=s'/\wLe w0 p.2 (q.2++[(d:Int)])
theorem BfsL.init:BfsL f D [(s0,[])] 0 0:=
 ⟨by simp,fun q h p hp=>by
  rw[List.mem_singleton.mp hp];exact .inl (by simp),fun i d q _ _ h=>by omega⟩
theorem BfsL.skip{q:α×List Int}(B:BfsL f D l k c)(hq:l[k]?=some q)(h:∀s',f (c:Int) q.1=some s'->∃p∈l,p.1=s'):BfsL f D l k (c+1):=by
 refine⟨B.ris,fun q' hq' p hp=>(B.near q' hq' p hp).trans (sLt.last _ (by omega)),fun i d q' h1 h2 h3 s' hs=>?_⟩;by_cases e:i=k/\d=c
 ·obtain⟨rfl,rfl⟩:=e;rw[hq]at h1;cases h1;obtain⟨p,hp,e⟩:=h s' hs;exact⟨p,hp,e,(B.near q hq p hp).le⟩
 ·exact B.closed i d q' h1 h2 (by omega) s' hs
theorem BfsL.add{q:α×List Int}{s':α}(B:BfsL f D l k c)(hq:l[k]?=some q)(hs:f (c:Int) q.1=some s'):BfsL f D (l++[(s',q.2++[(c:Int)])]) k (c+1):=by
 have hkl:k<l.length:=(List.getElem?_eq_some_iff.mp hq).1;refine⟨?_,fun q' h p hp=>?_,fun i d q' h1 h2 h3 s2 hs2=>?_⟩
 ·rw[List.pairwise_append];refine⟨B.ris,by simp,fun a ha b hb=>?_⟩;rw[List.mem_singleton.mp hb];exact B.near q hq a ha
 ·rw[List.getElem?_append_left hkl,hq]at h;cases h;rcases List.mem_append.mp hp with hp | hp
  ·exact(B.near q hq p hp).trans (sLt.last _ (by omega))
  ·rw[List.mem_singleton.mp hp];exact sLt.last _ (by omega)
 ·by_cases hi:i<l.length
  ·rw[List.getElem?_append_left hi]at h1;by_cases e:i=k/\d=c
   ·obtain⟨rfl,rfl⟩:=e;rw[hq]at h1;cases h1;rw[hs]at hs2;cases hs2;exact⟨_,List.mem_append_right _ (List.mem_singleton.mpr rfl),rfl,wLe.refl _ _⟩
   ·obtain⟨p,hp,e1,e2⟩:=B.closed i d q' h1 h2 (by omega) s2 hs2;exact⟨p,List.mem_append_left _ hp,e1,e2⟩
  ·omega
theorem BfsL.next(B:BfsL f D l k D):BfsL f D l (k+1) 0:=by
 refine⟨B.ris,fun q hq p hp=>?_,fun i d q h1 h2 h3=>B.closed i d q h1 h2 (by omega)⟩;obtain⟨h1,rfl⟩:=List.getElem?_eq_some_iff.mp hq;have hk:k<l.length:=by omega
 have a:=B.near _ (List.getElem?_eq_getElem hk) p hp;have b:=List.pairwise_iff_getElem.mp B.ris k (k+1) hk h1 (Nat.lt_succ_self k);exact a.trans (b.snoc _ _)
theorem BfsL.all(B:Bfs f D s0 l l.length 0)(L:BfsL f D l l.length 0):∀(row:List Int),(∀d∈row,0<=d/\d<(D:Int))->∀s,wY f s0 row=some s->∃p∈l,p.1=s/\wLe w0 p.2 row:=by
 intro row;have gen:∀(n:Nat) (row:List Int),row.length=n->(∀d∈row,0<=d/\d<(D:Int))->∀s,wY f s0 row=some s->∃p∈l,p.1=s/\wLe w0 p.2 row:=by
  intro n
  induction n with
  | zero=>
   intro row hr _ s hs
   have:row=[]:=List.length_eq_zero_iff.mp hr;subst this;refine⟨(s0,[]),List.mem_of_getElem? B.hd,?_,wLe.refl _ _⟩
   have:some s0=some s:=hs;cases this;rfl
  | succ n ih=>
   intro row hr hd s hs;have hne:row≠[]:=fun z=>by rw[z]at hr;simp at hr
   obtain⟨r,d,e⟩:∃r d,row=r++[d]:=⟨row.dropLast,row.getLast hne,(List.dropLast_concat_getLast hne).symm⟩;subst e;rw[xv]at hs;obtain⟨s1,h1,h2⟩:=Option.bind_eq_some_iff.mp hs;have hrl:r.length=n:=by simpa using hr
   obtain⟨p,hp,e1,e2⟩:=ih r hrl (fun d hd'=>hd d (List.mem_append_left _ hd')) s1 h1;obtain⟨i,hi,e3⟩:=List.mem_iff_getElem.mp hp;have hdd:=hd d (List.mem_append_right _ (List.mem_singleton.mpr rfl));obtain⟨p',hp',e4,e5⟩:=L.closed i d.toNat p (by rw[List.getElem?_eq_getElem hi,e3]) (by omega) (.inl hi) s (by rw[show((d.toNat:Nat):Int)=d by omega,e1];exact h2);rw[show((d.toNat:Nat):Int)=d by omega]at e5;exact⟨p',hp',e4,e5.trans (e2.snoc d)⟩
 exact gen row.length row rfl
theorem z5Z(L:l.Pairwise fun a b=>sLt a.2 b.2)(g:α->Bool):∀q0 rest,l.filter (fun q=>g q.1)=q0::rest->∀p∈l,g p.1=true->wLe w0 q0.2 p.2:=by
 induction l with
 | nil=>intro _ _ h;simp at h
 | cons a l ih=>
  intro q0 rest hf p hp hp1;obtain⟨pw1,pw2⟩:=List.pairwise_cons.mp L;rw[List.filter_cons]at hf;cases ha:g a.1 with
  | true=>
   rw[ha,if_pos rfl]at hf;have e0:a=q0:=(List.cons.inj hf).1;subst e0;rcases List.mem_cons.mp hp with rfl | hp
   ·exact wLe.refl _ _
   ·exact(pw1 p hp).le
  | false=>
   rw[ha,if_neg (by simp)]at hf;rcases List.mem_cons.mp hp with rfl | hp
   ·rw[ha]at hp1;cases hp1
   ·exact ih pw2 q0 rest hf p hp hp1
end
theorem xq:∀l:List Int,PyData.canLayAll0 (l.map PyData.int)=true
 | []=>rfl
 | x::l=>by simp only[List.map_cons,PyData.canLayAll0,PyData.canLay0,Bool.true_and];exact xq l
theorem z17:∀l:List Int,PyData.depthAll (l.map PyData.int)<=1
 | []=>by simp[PyData.depthAll]
 | x::l=>by simp only[List.map_cons,PyData.depthAll,PyData.depth];have:=z17 l;omega
theorem z3X{J:List Int->PyData}(h:∀r,(J r).canLay0=true):∀l:List (List Int),PyData.canLayAll0 (l.map J)=true
 | []=>rfl
 | r::l=>by simp only[List.map_cons,PyData.canLayAll0,h,Bool.true_and];exact z3X h l
theorem z90{J:List Int->PyData}(h:∀r,(J r).depth<=15):∀l:List (List Int),PyData.depthAll (l.map J)<=20
 | []=>by simp[PyData.depthAll]
 | r::l=>by
  simp only[List.map_cons,PyData.depthAll]
  have:=h r
  have:=z90 h l;omega
section
variable{β:Type}
noncomputable def gJ(J:β->PyData)(l:List (List Int×β)):List (PyData×PyData):=l.map fun kv=>(tupI kv.1,J kv.2)
variable{J:β->PyData}
theorem z6q(l:List (List Int×β)):((gJ J l).all fun kv=>xz kv.1)=true:=by
 rw[List.all_eq_true];intro kv h;obtain⟨q,_,rfl⟩:=List.mem_map.mp h;rfl
theorem z5E(l:List (List Int×β))(k:List Int):yE (gJ J l) (tupI k)=true:=by
 simp only[yE,xw,z6q,Bool.and_true]
theorem z8S:∀(l:List (List Int×β)) (k:List Int),((gJ J l).any fun kv=>PyData.eqv kv.1 (tupI k))=(l.any fun kv=>decide (kv.1=k))
 | [],k=>rfl
 | (c,v)::r,k=>by
  have ih:=z8S r k;unfold gJ at ih |-;rw[List.map_cons,List.any_cons,List.any_cons,ih];simp only[xQ]
theorem z0z{l:List (List Int×β)}(nd:(l.map (·.1)).Nodup){q:List Int×β}(h:q∈l):(l.find? fun kv=>decide (kv.1=q.1))=some q:=by
 induction l with
 | nil=>cases h
 | cons p r ih=>
  rw[List.map_cons,List.nodup_cons]at nd;rw[List.find?_cons];rcases List.mem_cons.mp h with rfl | h
  ·simp
  ·have hne2:p.1≠q.1:=fun e=>nd.1 (e▸List.mem_map.mpr ⟨q,h,rfl⟩);simp only[hne2,decide_false];exact ih nd.2 h
end
section
variable{α:Type}[DecidableEq α]{f:Int->α->α}{w:Int->Int}{D:Nat}{s0:α}{T T0:List (α×List Int)}{k:Nat}{s:α}{r:List Int}
noncomputable def putT(T:List (α×List Int))(s:α)(r:List Int):List (α×List Int):=if (T.any fun q=>decide (q.1=s))=true then T.map (fun q=>if q.1=s then(q.1,r)else q)else T++[(s,r)]
theorem yG:∀q,q∈putT T s r↔q=(s,r)\/q∈T/\q.1≠s:=by
 intro q;unfold putT;split
 next h=>
  rw[List.mem_map];constructor
  ·rintro⟨p,hp,rfl⟩;by_cases e:p.1=s
   ·rw[if_pos e];exact .inl (by rw[e])
   ·rw[if_neg e];exact .inr ⟨hp,e⟩
  ·rintro(rfl | ⟨h1,h2⟩)
   ·obtain⟨p,hp,e⟩:=List.any_eq_true.mp h;exact⟨p,hp,by rw[if_pos (of_decide_eq_true e),of_decide_eq_true e]⟩
   ·exact⟨q,h1,by rw[if_neg h2]⟩
 next h=>
  have hn:∀p∈T,p.1≠s:=fun p hp=>by
   have:=List.any_eq_false.mp (Bool.not_eq_true _▸h) p hp;simpa using this
  rw[List.mem_append,List.mem_singleton];constructor
  ·rintro(h | h)
   ·exact .inr ⟨h,hn q h⟩
   ·exact .inl h
  ·rintro(h | h)
   ·exact .inr h
   ·exact .inl h.1
theorem z9S(nd:(T.map (·.1)).Nodup):((putT T s r).map (·.1)).Nodup:=by
 unfold putT;split
 next h=>
  have:(T.map fun q=>if q.1=s then(q.1,r)else q).map (·.1)=T.map (·.1):=by
   rw[List.map_map];refine List.map_congr_left fun q _=>?_;show(if q.1=s then(q.1,r)else q).1=q.1;split<;>rfl
  rw[this];exact nd
 next h=>
  rw[List.map_append];refine List.nodup_append.mpr ⟨nd,by simp,fun a ha b hb=>?_⟩;obtain⟨p,hp,rfl⟩:=List.mem_map.mp ha
  have:b=s:=by simpa using hb
  rw[this]
  have:=List.any_eq_false.mp (Bool.not_eq_true _▸h) p hp;simpa using this
def Low(w:Int->Int)(T0 T:List (α×List Int)):Prop:=∀q∈T0,∃p∈T,p.1=q.1/\wLe w p.2 q.2
theorem Low.refl(T:List (α×List Int)):Low w T T:=fun q h=>⟨q,h,rfl,wLe.refl _ _⟩
theorem Low.trans{T1 T2 T3:List (α×List Int)}(h:Low w T1 T2)(k:Low w T2 T3):Low w T1 T3:=fun q hq=>by
 obtain⟨p,hp,e,l⟩:=h q hq;obtain⟨p2,hp2,e2,l2⟩:=k p hp;exact⟨p2,hp2,by rw[e2,e],l2.trans l⟩
theorem Low.put(h:∀q∈T,q.1=s->wLe w r q.2):Low w T (putT T s r):=fun q hq=>by
 by_cases e:q.1=s
 ·exact⟨(s,r),(yG _).mpr (.inl rfl),e.symm,h q hq e⟩
 ·exact⟨q,(yG _).mpr (.inr ⟨hq,e⟩),rfl,wLe.refl _ _⟩
structure Tab(f:Int->α->α)(D:Nat)(s0:α)(T:List (α×List Int)):Prop where
 nd:(T.map (·.1)).Nodup
 sd:∀q∈T,zv f s0 q.2=q.1
 rd:∀q∈T,DoorsIn D q.2
theorem Tab.init:Tab f D s0 [(s0,[])]:=⟨by simp,fun q h=>by rw[List.mem_singleton.mp h];rfl,fun q h=>by rw[List.mem_singleton.mp h];intro d hd;cases hd⟩
theorem Tab.put(B:Tab f D s0 T)(h1:zv f s0 r=s)(h2:DoorsIn D r):Tab f D s0 (putT T s r):=
 ⟨z9S B.nd,fun q hq=>by
  rcases(yG q).mp hq with rfl | ⟨h,_⟩
  ·exact h1
  ·exact B.sd q h,fun q hq=>by
  rcases(yG q).mp hq with rfl | ⟨h,_⟩
  ·exact h2
  ·exact B.rd q h⟩
def Dom(f:Int->α->α)(w:Int->Int)(D:Nat)(s0:α)(T:List (α×List Int))(k:Nat):Prop:=∀r,DoorsIn D r->r.length<=k->∃q∈T,q.1=zv f s0 r/\wLe w q.2 r
theorem Dom.low(h:Dom f w D s0 T0 k)(l:Low w T0 T):Dom f w D s0 T k:=fun r h1 h2=>by
 obtain⟨q,hq,e,g⟩:=h r h1 h2;obtain⟨p,hp,e2,g2⟩:=l q hq;exact⟨p,hp,by rw[e2,e],g2.trans g⟩
def Gone(f:Int->α->α)(w:Int->Int)(D:Nat)(T:List (α×List Int))(q:α×List Int)(c:Nat):Prop:=∀d:Nat,d<c->∃p∈T,p.1=f d q.1/\wLe w p.2 (q.2++[(d:Int)])
theorem Gone.low{T':List (α×List Int)}{q:α×List Int}{c:Nat}(h:Gone f w D T q c)(l:Low w T T'):Gone f w D T' q c:=fun d hd=>by
 obtain⟨p,hp,e,g⟩:=h d hd;obtain⟨p2,hp2,e2,g2⟩:=l p hp;exact⟨p2,hp2,by rw[e2,e],g2.trans g⟩
theorem z9M{r:List Int}(h:r≠[]):∃r0 d,r=r0++[d]:=⟨r.dropLast,r.getLast h,(List.dropLast_concat_getLast h).symm⟩
theorem Dom.next(h:Dom f w D s0 T0 k)(l:Low w T0 T)(g:∀q∈T0,Gone f w D T q D):Dom f w D s0 T (k+1):=fun r hr hl=>by
 by_cases e:r=[]
 ·subst e;exact(h.low l) [] hr (Nat.zero_le _)
 ·obtain⟨r0,d,rfl⟩:=z9M e;have hd:=hr d (List.mem_append_right _ (List.mem_singleton.mpr rfl));obtain⟨q,hq,e1,l1⟩:=h r0 (fun x hx=>hr x (List.mem_append_left _ hx)) (by simpa using hl);obtain⟨p,hp,e2,l2⟩:=g q hq d.toNat (by omega);rw[show((d.toNat:Nat):Int)=d by omega]at e2 l2;exact⟨p,hp,by rw[e2,e1,xJ],l2.trans (l1.snoc d)⟩
theorem Dom.all(h:Dom f w D s0 T 0)(g:∀q∈T,Gone f w D T q D):∀k,Dom f w D s0 T k
 | 0=>h
 | k+1=>(Dom.all h g k).next (Low.refl T) g
theorem z37(f:Int->α->α)(s0:α)(a b:List Int):zv f s0 (a++b)=zv f (zv f s0 a) b:=by simp[zv]
end
theorem z97{st:List Int}(h:st.Pairwise (·<·))(hin:∀x∈st,0<=x/\x<6):st∈subs (upto 6):=by
 have e:st=(upto 6).filter fun x=>decide (x∈st):=uG h ((uS 6).filter _) fun x=>by
  rw[List.mem_filter,decide_eq_true_iff];exact⟨fun hx=>⟨mem_upto.mpr (by have:=hin x hx;omega),hx⟩,fun hx=>hx.2⟩
 rw[e];exact uN List.filter_sublist
theorem zAk{ks:List (List Int)}(nd:ks.Nodup)(h:∀st∈ks,st.Pairwise (·<·)/\(∀x∈st,0<=x/\x<6)/\st≠[]):ks.length<=63:=by
 have:=nd.length_le_of_subset (l₂:=(subs (upto 6)).filter fun st=>!st.isEmpty) fun st hst=>by
  obtain⟨h1,h2,h3⟩:=h st hst;refine List.mem_filter.mpr ⟨z97 h1 h2,?_⟩;cases st with
  | nil=>exact absurd rfl h3
  | cons=>rfl
 refine Nat.le_trans this ?_
 decide
theorem z5T{β:Type}{J:List Int->PyData}(l:List (List Int×List Int))(hl:l.length<10000)(k v:List Int):putD (gJ J l) (tupI k) (J v)=some (gJ J (putT l k v)):=by
 unfold putD;rw[if_pos ⟨z5E l k,by unfold lim;simp[gJ];omega⟩];congr 1;unfold dPut putT;rw[z8S];split
 next h=>
  unfold gJ;rw[List.map_map,List.map_map];refine List.map_congr_left fun q _=>?_;show(if PyData.eqv (tupI q.1) (tupI k)=true then(tupI q.1,J v)else(tupI q.1,J q.2))=_;rw[xQ];by_cases e:q.1=k
  ·simp[e]
  ·simp[e]
 next h=>
  unfold gJ;rw[List.map_append];rfl
theorem zy:∀l:List Int,zn (l.map PyData.int)=some l
 | []=>rfl
 | x::l=>by
  have:=zy l;simp only[List.map_cons,zn,this,Option.map_some]
theorem z1h(t:List Int):keyI (tupI t)=t:=by
 show(zn (t.map PyData.int)).getD []=t;rw[zy];rfl
theorem ud{ts:List (List Int)}(hne:∀t∈ts,t≠[])(hl:ts.length<64):∃us:List (List Int),yg [.list (ts.map tupI)]=some (.list (us.map tupI))/\us.Perm ts/\us.Pairwise fun a b=>HT.lexLt b a=false:=by
 have hs:y6 (ts.map tupI)=true:=by
  unfold y6;rw[Bool.and_eq_true,Bool.or_eq_true];refine⟨.inr (List.all_eq_true.mpr fun d hd=>?_),by simpa using hl⟩;obtain⟨q,hq,rfl⟩:=List.mem_map.mp hd;show((zn (q.map PyData.int)).isSome && !(q.map PyData.int).isEmpty)=true;rw[zy];cases q with
  | nil=>exact absurd rfl (hne _ hq)
  | cons=>rfl
 have perm:=yP (key:=keyI) (ts.map tupI);have srt:=yO (key:=keyI) (ts.map tupI);have e:(xI keyI (ts.map tupI))=((xI keyI (ts.map tupI)).map keyI).map tupI:=by
  rw[List.map_map]
  conv=>lhs;rw[<-List.map_id (xI keyI (ts.map tupI))]
  refine List.map_congr_left fun d hd=>?_;obtain⟨q,_,rfl⟩:=List.mem_map.mp (perm.mem_iff.mp hd);show tupI q=tupI (keyI (tupI q));rw[z1h]
 refine⟨(xI keyI (ts.map tupI)).map keyI,?_,?_,?_⟩
 ·simp only[yg,wG];rw[if_pos hs,<-e]
 ·have:=perm.map keyI;rw[List.map_map]at this;have e2:ts.map (keyI∘tupI)=ts:=by
   conv=>rhs;rw[<-List.map_id ts]
   exact List.map_congr_left fun q _=>z1h q
  rwa [e2]at this
 ·exact List.pairwise_map.mpr srt
end L2
namespace Bt
open PySem
theorem b_isinstance:bootBuiltins "isinstance"=some (.builtin "isinstance"):=by decide +kernel
theorem b_all:bootBuiltins "all"=some (.builtin "all"):=by decide +kernel
theorem b_any:bootBuiltins "any"=some (.builtin "any"):=by decide +kernel
theorem b_min:bootBuiltins "min"=some (.builtin "min"):=by decide +kernel
theorem b_len:bootBuiltins "len"=some (.builtin "len"):=by decide +kernel
theorem b_sorted:bootBuiltins "sorted"=some (.builtin "sorted"):=by decide +kernel
theorem b_bool:bootBuiltins "bool"=some (.type "bool"):=by decide +kernel
theorem b_int:bootBuiltins "int"=some (.type "int"):=by decide +kernel
theorem b_tuple:bootBuiltins "tuple"=some (.type "tuple"):=by decide +kernel
theorem b_list:bootBuiltins "list"=some (.type "list"):=by decide +kernel
theorem b_dict:bootBuiltins "dict"=some (.type "dict"):=by decide +kernel
theorem b_range:bootBuiltins "range"=some (.type "range"):=by decide +kernel
theorem b_set:bootBuiltins "set"=some (.type "set"):=by decide +kernel
end Bt
namespace L2
open PySem
section
variable{X:Cx}{K:W.Frag}
end
end L2
namespace Gw
open PySem L2
set_option hygiene false
set_option compiler.extract_closed false
def tmTab:String:="a R 2 zA _7 ?2 #1|b R 1 DE.w _5 ?|c X 0 zF _5 ( pv %0 )|d X 0 zD _3|e X 0 zM _6|f X 0 zH _5 ( pv %0 )|g R 1 zK _9 ( E0 ) _7 G_$0 #3 ( hr.mono #4 ) #1 T.f_$0.m T.f_$0.k T.f_$0.d zX ? #4 #1 #1|h R 2 zJ _7 ?2|i R 1 DF.de _5 ?|j R 1 yA _6 ?|k R 1 yD _6 %0 _2 nd rfl #0 ? #1 #2|l R 1 zN _5 ?|m X 0 xx _6|n R 1 yY _7 ?|o R 3 xE _10 ?3|p R 1 za _6 ?|q X 0 yK _3|r R 1 DPW.dt _5 ?|s R 2 zL _7 ?2 #1|t X 0 zO _3|u R 2 zj _10 ( wS hr.units ) ?2 ( zd _ )|v X 0 xV _5|w R 1 zt _5 ? #12|x R 2 zk _10 zx ?2|y R 2 wj _9 ?2|z R 1 xu _6 ?|A R 2 w4 _9 ?2|B R 1 wp _5 ?|C R 2 yI _8 hu ?2 #5|D R 1 zU _11 yU #1 T.b_len Bt.b_len ? #4 #4 #1 #1|E R 1 wF _6 ?|F R 1 xS _6 ?|G R 3 z5K _11 ?3|H R 1 yp _9 #1 T.b_range ? #1|I R 1 z0F _3 ?|J R 2 zj _10 ( xl hr.units ) ?2 ( zd _ )|K R 2 xU _10 z3H ?2 ( zd _ )|L R 2 zj _10 ( xF z94 ) ?2 ( zd _ )|M X 0 z10 _3|N X 0 z8q _6|O R 1 wx _6 %0 _2 nd rfl #0 ? #1 #2|P R 2 w9 _10 PassesOwn.never rfl ? ( xD ( yc {i 5 ) nd rfl #0 ) ) ? #6|Q X 0 zAX _7 ( z4H PySem.F.plainAttrs_list PySem.F.slot_list_extend PySem.F.type_list_extend z4y ( pv 4 ) ( zW ( DF.de ( ye {N [ '_law_script '_law_town '_law_house_here '_law_places '_law_pairs '_law_one '_law_thing '_law_none '_law_k '_law_at '_law_news '_law_found '_law_bad ) ) {sc ( zC ( top 42 ) ) ) {N' [ '_law_script '_law_town '_law_house_here '_law_places '_law_pairs '_law_one '_law_thing '_law_none '_law_k '_law_at '_law_news '_law_found '_law_bad '_law_other ) ) rfl rfl rfl #7 yN ( zAB #1 T.b_range ( zL ( DE.w ( zk zx ( zH ( pv 5 ) ) ( DE.w zM ) ) ) ( zL ( DE.w ( yI hu ( zH ( pv 2 ) ) ( DE.w zM ) #5 ) ) zO ) ) ) #8 #9 ) ) pa_nil ) ) #1|R R 3 ye _9 ( [ '_law_script '_law_town '_law_house_here '_law_places '_law_pairs '_law_one '_law_thing '_law_none '_law_k '_law_at '_law_news '_law_found '_law_bad ) ) ( [ '_law_script '_law_town '_law_house_here '_law_places '_law_pairs '_law_one '_law_thing '_law_none '_law_k '_law_at '_law_news '_law_found '_law_bad '_law_pair ) ) ( zC ( top %0 ) ) _5 rfl rfl rfl #7 #10 ? #11 #11 #6|S R 1 xT _6 ?|T R 1 zU _11 ( z9s rfl hr.units ) #1 T.b_min Bt.b_min ? #4 #4 #1 #1|U R 3 z6d _9 ( [ '_law_script '_law_town '_law_house_here '_law_places '_law_pairs '_law_one '_law_thing '_law_none '_law_k '_law_at '_law_news '_law_found '_law_bad '_law_pair ) ) ( [ '_law_script '_law_town '_law_house_here '_law_places '_law_pairs '~_law_one '_law_thing '_law_none '_law_k '_law_at '_law_news '_law_found '_law_bad '_law_pair '_law_one ) ) _6 rfl rfl z2Y #7 yN ? #11 #11 #6|V X 0 wK _|W R 2 xU _10 z2I ?2 ( zd _ )|X X 0 z25 _5 ( xH ( z2X rfl ) #1 T.b_tuple Bt.b_tuple ( zW ( z5Q #1 T.b_range ( zL ( DE.w ( yI hu ( zH ( pv 2 ) ) ( DE.w zM ) #5 ) ) zO ) ) pa_nil ) )|Y R 2 xU _10 ( wS hr.units ) ?2 ( zd _ )|Z R 1 z2Q _9 rfl hr.units #1 T.b_sorted Bt.b_sorted #1 T.b_set Bt.b_set ? #1|aa R 2 zj _10 z3H ?2 ( zd _ )|ab R 3 z3p _9 %0 ( [ '_law_script '_law_town '_law_house_here '_law_places '_law_pairs '_law_one '_law_thing '_law_none '_law_k '_law_at '_law_news '_law_found '_law_bad ) ) ( [ '_law_script '_law_town '_law_house_here '_law_places '_law_pairs '_law_one '_law_thing '_law_none '_law_k '_law_at '_law_news '_law_found '_law_bad '_law_some_here ) ) ( zC ( top %1 ) ) _8 rfl rfl rfl #7 nd rfl rfl #10 ? #11 #11 #1 #6|ac R 2 w9 _10 PassesOwn.never rfl ? ( xD ( yc {i 8 ) nd rfl #0 ) ) ? #6|ad R 2 zk _10 uk ?2|ae R 1 zBQ _8 ? z9l|af X 0 u8 _6 z3g ( yB xC #1 T.b_isinstance Bt.b_isinstance ( zW ( zH ( pv 11 ) ) ( zW ( xc {v .ty 'bool ) #1 T.b_bool Bt.b_bool rfl ) pa_nil ) ) )|ag R 1 z8Z _6 ?|ah R 2 xU _10 ( xl hr.units ) ?2 ( zd _ )"
def tmArg:Nat->Lean.MacroM Lean.Term
  | 0=>`((by first | exact Or.inl rfl | exact Or.inr rfl))
  | 1=>`((by rfl))
  | 2=>`((by first | exact .inl rfl | exact .inr rfl | assumption))
  | 3=>`((fun _ _ z=>z.elim))
  | 4=>`((by decide))
  | 5=>`((fun _ _=>rfl))
  | 6=>`((by intro _;rfl))
  | 7=>`((by decide +kernel))
  | 8=>`((fun _ _ _ _=>wK))
  | 9=>`((fun _ _ _ _=>(yY (zA (zF (pv 5)) (zA (zF (pv 13)) zD)))))
  | 10=>`((fun _ _ _ z=>z))
  | 11=>`((fun _ _ _ _=>?_))
  | 12=>`((fun _=>rfl))
  | _=>Lean.Macro.throwUnsupported
def tmSub(p:List String)(w:String):List String:=match w.splitOn "$" with
  | [a,b]=>[a++p.getD ((b.take 1).toString.toNat!) ""++(b.drop 1).toString]
  | _=>
    let r:=(w.drop 1).toString
    if w.startsWith "%" then [p.getD r.toNat! ""]
    else if w.startsWith "_" then List.replicate (r.toNat?.getD 1) "_"
    else if w.startsWith "?" then List.replicate (r.toNat?.getD 1) "?"
    else [w]
def tmApp(a:Array Lean.Term):Lean.Term:=if a.size == 1 then a[0]! else Lean.Syntax.mkApp a[0]! (a.extract 1 a.size)
def tmList:Nat->List String->Array Lean.Term->Lean.MacroM (Array Lean.Term×List String)
  | f+1,w::r,a=>do
    if w == ")" then return (a,r)
    let t:=(w.drop 1).toString
    if w == "(" || w == "[" || w.startsWith "{" then
      let(b,r)<-tmList f r #[]
      let e<-if w == "[" then `([$b,*])else if w == "(" then `(($(tmApp b)))else pure ⟨Lean.mkNode ``Lean.Parser.Term.namedArgument #[Lean.mkAtom "(",Lean.mkIdent t.toName,Lean.mkAtom ":=",tmApp b,Lean.mkAtom ")"]⟩
      tmList f r (a.push e)
    else
      let e<-if w == "_" then `(_)else if w == "?" then `(?_)else if w.startsWith "#" then tmArg t.toNat! else if w.startsWith (String.ofList [Char.ofNat 39])then pure ⟨Lean.Syntax.mkStrLit t⟩
        else if w.startsWith "@" then `(@$(Lean.mkIdent t.toName))else if w.startsWith "." then pure ⟨Lean.mkNode ``Lean.Parser.Term.dotIdent #[Lean.mkAtom ".",Lean.mkIdent t.toName]⟩
        else if w.isNat then pure (Lean.Syntax.mkNumLit w)else pure (Lean.mkIdent w.toName)
      tmList f r (a.push e)
  | _,_,a=>return (a,[])
def tmOne(x:String):Lean.MacroM (Lean.TSyntax `tactic×Nat):=do
  let p:=x.splitOn ","
  let c:=p.headD ""
  let some row:=(tmTab.splitOn "|").find? fun r=>r.startsWith (c++" ") | Lean.Macro.throwUnsupported
  let ws:=(row.splitOn " ").drop 1
  let f<-`(@$(Lean.mkIdent (ws.getD 2 "").toName))
  let(as,_)<-tmList 1000 ((ws.drop 3).flatMap (tmSub (p.drop 1))) #[]
  let e:=Lean.Syntax.mkApp f as
  let h:=(ws.getD 1 "").toNat!
  if ws.headD "" == "R" then return (<-`(tactic| refine $e),h)else return (<-`(tactic| exact $e),h)
def tmGo:Nat->List String->Lean.MacroM (Lean.TSyntax `tactic×List String)
  | f+1,x::r=>do
    let(t,k)<-tmOne x
    let mut a:=#[t]
    let mut r:=r
    for j in [0:k] do
      let(u,r2)<-tmGo f r
      r:=r2
      a:=a.push (<-if j+1<k then `(tactic| · $u:tactic)else pure u)
    return (<-`(tactic| ($[$a:tactic];*)),r)
  | _,_=>Lean.Macro.throwUnsupported
local macro_rules | `(tactic| walk_at $s:str)=>do
  match s.getString.splitOn " " with
  | "!"::r=>return (<-tmGo 1000 r).1
  | _=>Lean.Macro.throwUnsupported
set_option hygiene true
noncomputable def top(i:Nat):Stmt:=PySem.Challenge.pw_gatherall_k06_whole_pairs.main.body.getD i (.Pass ⟨0,0,0,0⟩)
theorem zCz:FnScope ["thing","least","most"] ["thing","least","most"] (zC (top 7)):=⟨rfl,rfl,rfl,by decide +kernel,rfl,by decide +kernel,by decide +kernel⟩
theorem zCs:FnScope ["thing","least","most"] ["thing","least","most"] (zC (top 8)):=⟨rfl,rfl,rfl,by decide +kernel,rfl,by decide +kernel,by decide +kernel⟩
theorem zCW:FnScope ["things"] ["things"] (zC (top 9)):=⟨rfl,rfl,rfl,by decide +kernel,rfl,by decide +kernel,by decide +kernel⟩
theorem zCM:FnScope ["thing","many"] ["thing","many"] (zC (top 10)):=⟨rfl,rfl,rfl,by decide +kernel,rfl,by decide +kernel,by decide +kernel⟩
theorem zCx:FnScope ["thing","many"] ["thing","many"] (zC (top 11)):=⟨rfl,rfl,rfl,by decide +kernel,rfl,by decide +kernel,by decide +kernel⟩
theorem zCL:FnScope ["thing"] ["thing"] (zC (top 12)):=⟨rfl,rfl,rfl,by decide +kernel,rfl,by decide +kernel,by decide +kernel⟩
theorem zCK:FnScope ["thing"] ["thing"] (zC (top 13)):=⟨rfl,rfl,rfl,by decide +kernel,rfl,by decide +kernel,by decide +kernel⟩
theorem zCo:FnScope ["thing"] ["thing"] (zC (top 14)):=⟨rfl,rfl,rfl,by decide +kernel,rfl,by decide +kernel,by decide +kernel⟩
theorem zCX:FnScope ["house"] ["house"] (zC (top 15)):=⟨rfl,rfl,rfl,by decide +kernel,rfl,by decide +kernel,by decide +kernel⟩
theorem zCt:FnScope ["places","many"] ["places","many"] (zC (top 16)):=⟨rfl,rfl,rfl,by decide +kernel,rfl,by decide +kernel,by decide +kernel⟩
theorem zBx:FnScope ["house","places"] ["house","places"] (zC (top 18)):=⟨rfl,rfl,rfl,by decide +kernel,rfl,by decide +kernel,by decide +kernel⟩
theorem sc_q11:FnScope ["door","standing","rooms"] ["door","standing"] (zC (top 19)):=⟨rfl,rfl,rfl,by decide +kernel,rfl,by decide +kernel,by decide +kernel⟩
theorem sc_q12:FnScope ["start","doors","behind","rows","waiting","ahead","door","came"] ["start","doors","behind"] (zC (top 20)):=⟨rfl,rfl,rfl,by decide +kernel,rfl,by decide +kernel,by decide +kernel⟩
theorem zBN:FnScope ["house","places"] ["house","places"] (zC (top 21)):=⟨rfl,rfl,rfl,by decide +kernel,rfl,by decide +kernel,by decide +kernel⟩
theorem sc_q14:FnScope ["house","places","few","rows","fitting"] ["house","places","few"] (zC (top 22)):=⟨rfl,rfl,rfl,by decide +kernel,rfl,by decide +kernel,by decide +kernel⟩
theorem sc_q15:FnScope ["house","places","few","standings"] ["house","places","few"] (zC (top 23)):=⟨rfl,rfl,rfl,by decide +kernel,rfl,by decide +kernel,by decide +kernel⟩
theorem sc_q16:FnScope ["house","places","standings","listed","door"] ["house","places","standings"] (zC (top 24)):=⟨rfl,rfl,rfl,by decide +kernel,rfl,by decide +kernel,by decide +kernel⟩
theorem zBX:FnScope ["house","places"] ["house","places"] (zC (top 25)):=⟨rfl,rfl,rfl,by decide +kernel,rfl,by decide +kernel,by decide +kernel⟩
theorem zAN:FnScope ["house","places"] ["house","places"] (zC (top 26)):=⟨rfl,rfl,rfl,by decide +kernel,rfl,by decide +kernel,by decide +kernel⟩
theorem zC5:FnScope ["thing","many"] ["thing","many"] (zC (top 27)):=⟨rfl,rfl,rfl,by decide +kernel,rfl,by decide +kernel,by decide +kernel⟩
theorem zBU:FnScope ["thing","many"] ["thing","many"] (zC (top 28)):=⟨rfl,rfl,rfl,by decide +kernel,rfl,by decide +kernel,by decide +kernel⟩
theorem zAj:FnScope ["house","places","thing"] ["house","places","thing"] (zC (top 29)):=⟨rfl,rfl,rfl,by decide +kernel,rfl,by decide +kernel,by decide +kernel⟩
theorem sc_q22:FnScope ["many","found","room"] ["many"] (zC (top 30)):=⟨rfl,rfl,rfl,by decide +kernel,rfl,by decide +kernel,by decide +kernel⟩
theorem sc_q23:FnScope ["house","pairs"] ["house"] (zC (top 31)):=⟨rfl,rfl,rfl,by decide +kernel,rfl,by decide +kernel,by decide +kernel⟩
theorem zAR:FnScope ["_law_script","_law_k"] ["_law_script","_law_k"] (zC (top 33)):=⟨rfl,rfl,rfl,by decide +kernel,rfl,by decide +kernel,by decide +kernel⟩
theorem sc_q25:FnScope ["_law_script","_law_k","_law_many","_law_drawn"] ["_law_script","_law_k","_law_many"] (zC (top 34)):=⟨rfl,rfl,rfl,by decide +kernel,rfl,by decide +kernel,by decide +kernel⟩
theorem zAx:FnScope ["_law_script","_law_town","_law_many"] ["_law_script","_law_town","_law_many"] (zC (top 35)):=⟨rfl,rfl,rfl,by decide +kernel,rfl,by decide +kernel,by decide +kernel⟩
theorem zBe:FnScope ["_law_script","_law_town","_law_some_here"] ["_law_script","_law_town","_law_some_here"] (zC (top 36)):=⟨rfl,rfl,rfl,by decide +kernel,rfl,by decide +kernel,by decide +kernel⟩
theorem sc_q28:FnScope ["_law_script","_law_town","_law_most","_law_many","_law_doors","_law_k","_law_step","_law_kind","_law_door"] ["_law_script","_law_town","_law_most"] (zC (top 37)):=⟨rfl,rfl,rfl,by decide +kernel,rfl,by decide +kernel,by decide +kernel⟩
theorem sc_q29:FnScope ["_law_script","_law_town","_law_many","_law_made"] ["_law_script","_law_town","_law_many"] (zC (top 38)):=⟨rfl,rfl,rfl,by decide +kernel,rfl,by decide +kernel,by decide +kernel⟩
theorem zB8:FnScope ["_law_house_here","_law_places","_law_door"] ["_law_house_here","_law_places","_law_door"] (zC (top 39)):=⟨rfl,rfl,rfl,by decide +kernel,rfl,by decide +kernel,by decide +kernel⟩
theorem sc_q31:FnScope ["_law_house_here","_law_places","_law_met_here","_law_row","_law_later","_law_here","_law_door","_law_there","_law_way"] ["_law_house_here","_law_places"] (zC (top 40)):=⟨rfl,rfl,rfl,by decide +kernel,rfl,by decide +kernel,by decide +kernel⟩
theorem sc_q32:FnScope ["_law_house_here","_law_places","_law_thing","_law_some_here","_law_door"] ["_law_house_here","_law_places","_law_thing"] (zC (top 41)):=⟨rfl,rfl,rfl,by decide +kernel,rfl,by decide +kernel,by decide +kernel⟩
theorem sc_law:FnScope ["_law_script","_law_town","_law_house_here","_law_places","_law_pairs","_law_one","_law_thing","_law_none","_law_k","_law_at","_law_news","_law_found","_law_bad"] ["_law_script"] (zC (top 42)):=⟨rfl,rfl,rfl,by decide +kernel,rfl,by decide +kernel,by decide +kernel⟩
set_option genInjectivity false in
set_option genSizeOfSpec false in
structure Adr where
 (f_q0 f_q1 f_q2 f_q3 f_q4 f_q5 f_q6 f_q7 f_q8 f_q9 f_q10 f_q11 f_q12 f_q13 f_q14 f_q15 f_q16 f_q17 f_q18 f_q19 f_q20 f_q21 f_q22 f_q23 f_q24 f_q25 f_q26 f_q27 f_q28 f_q29 f_q30 f_q31 f_q32 f_law:Fn1)
structure Txt(K:W.Frag)(mg:Str->Option Value)(t:Adr):Prop where
 f_q0:FT K mg "is_number" ["thing","least","most"] (top 7) t.f_q0
 f_q1:FT K mg "are_numbers" ["thing","least","most"] (top 8) t.f_q1
 f_q2:FT K mg "is_rising" ["things"] (top 9) t.f_q2
 f_q3:FT K mg "are_places" ["thing","many"] (top 10) t.f_q3
 f_q4:FT K mg "is_door" ["thing","many"] (top 11) t.f_q4
 f_q5:FT K mg "is_number_and_tuple" ["thing"] (top 12) t.f_q5
 f_q6:FT K mg "may_hold_doors" ["thing"] (top 13) t.f_q6
 f_q7:FT K mg "is_house" ["thing"] (top 14) t.f_q7
 f_q8:FT K mg "need_house" ["house"] (top 15) t.f_q8
 f_q9:FT K mg "need_places" ["places","many"] (top 16) t.f_q9
 f_q10:FT K mg "need_house_and_places" ["house","places"] (top 18) t.f_q10
 f_q11:FT K mg "through" ["door","standing"] (top 19) t.f_q11
 f_q12:FT K mg "rows_from" ["start","doors","behind"] (top 20) t.f_q12
 f_q13:FT K mg "shortest_rows" ["house","places"] (top 21) t.f_q13
 f_q14:FT K mg "row_to_so_few" ["house","places","few"] (top 22) t.f_q14
 f_q15:FT K mg "never_so_few" ["house","places","few"] (top 23) t.f_q15
 f_q16:FT K mg "never_lead_out" ["house","places","standings"] (top 24) t.f_q16
 f_q17:FT K mg "gather" ["house","places"] (top 25) t.f_q17
 f_q18:FT K mg "bar_of" ["house","places"] (top 26) t.f_q18
 f_q19:FT K mg "is_apart" ["thing","many"] (top 27) t.f_q19
 f_q20:FT K mg "are_standings_apart" ["thing","many"] (top 28) t.f_q20
 f_q21:FT K mg "is_bar_of" ["house","places","thing"] (top 29) t.f_q21
 f_q22:FT K mg "all_standings" ["many"] (top 30) t.f_q22
 f_q23:FT K mg "pairs_apart" ["house"] (top 31) t.f_q23
 f_q24:FT K mg "_law_cell_at" ["_law_script","_law_k"] (top 33) t.f_q24
 f_q25:FT K mg "_law_mixed" ["_law_script","_law_k","_law_many"] (top 34) t.f_q25
 f_q26:FT K mg "_law_draw" ["_law_script","_law_town","_law_many"] (top 35) t.f_q26
 f_q27:FT K mg "_law_pick" ["_law_script","_law_town","_law_some_here"] (top 36) t.f_q27
 f_q28:FT K mg "_law_house" ["_law_script","_law_town","_law_most"] (top 37) t.f_q28
 f_q29:FT K mg "_law_some" ["_law_script","_law_town","_law_many"] (top 38) t.f_q29
 f_q30:FT K mg "_law_through" ["_law_house_here","_law_places","_law_door"] (top 39) t.f_q30
 f_q31:FT K mg "_law_met" ["_law_house_here","_law_places"] (top 40) t.f_q31
 f_q32:FT K mg "_law_bars" ["_law_house_here","_law_places","_law_thing"] (top 41) t.f_q32
 f_law:FT K mg "law" ["_law_script"] (top 42) t.f_law
 b_isinstance:mg "isinstance"=none
 b_bool:mg "bool"=none
 b_int:mg "int"=none
 b_tuple:mg "tuple"=none
 b_list:mg "list"=none
 b_all:mg "all"=none
 b_any:mg "any"=none
 b_range:mg "range"=none
 b_len:mg "len"=none
 b_sorted:mg "sorted"=none
 b_min:mg "min"=none
 b_zip:mg "zip"=none
 b_set:mg "set"=none
 b_dict:mg "dict"=none
 g_q35:∃u,mg "MOST_PLACES"=some u/\RelV (.int 8) u
 g_q36:∃u,mg "MOST_DOORS"=some u/\RelV (.int 3) u
noncomputable def z95:Int:=8
noncomputable def z9h:Int:=3
section
variable{P:Program}{w:World}{K:W.Frag}{mg:Str->Option Value}{base:Heap}{t:Adr}
noncomputable def b_q0:Env'->Mx Out:=(sSeq (sIf (mOrT (mTru (mUn (fIsi "bool") (mVar 0))) (xm (mTru (mUn (fIsi "int") (mVar 0))))) (sRet (mC (.bool false))) sNil)
 (sRet (z23 (fCmp fun i j=>decide (i<=j)) (fCmp fun i j=>decide (i<=j)) (mVar 1) (mVar 0) (mVar 2))))
noncomputable def F_q0:List D->Mx D:=mFn 3 3 b_q0
theorem zAt(T:Txt K mg t):FnOk P w K mg base CX0 1 t.f_q0.a t.f_q0.d ["thing","least","most"] (spD K EW0 F_q0):=by
 refine zg (m:=b_q0) T.f_q0.F zCz rfl rfl rfl fun cdv A outer s H E hr=>?_;have hu:=yJ hr;unfold b_q0;exact(zJ (xE (DPW.dt (w4 (zt (DE.w (u8 z3g (yB xC (by rfl) T.b_isinstance Bt.b_isinstance (zW (zH (pv 0)) (zW (xc (v:=.ty "bool") (by rfl) T.b_bool Bt.b_bool rfl) pa_nil))))) (fun _=>rfl)) (wF (xS (zt (DE.w (u8 zAG (yB xC (by rfl) T.b_isinstance Bt.b_isinstance (zW (zH (pv 0)) (zW (xc (v:=.ty "int") (by rfl) T.b_int Bt.b_int rfl) pa_nil))))) (fun _=>rfl)))))) (zN (za (DE.w xx))) yK)
   (zN (za (DE.w (z3A (xF z5O) (xF z5O) (zH (pv 1)) (zH (pv 0)) (zH (pv 2)))))))
noncomputable def b_q2:Env'->Mx Out:=(sRet (zV (yQ fun bs=>bs.all id) (zB (mP (yS (mRng yl (zB (mBin fSub (zV fLen (zB (mVar 0) mNil)) (mC (.int 1))) mNil)) mYes (mBin fLt (mBin fIx (mVar 0) (mVar 1)) (mBin fIx (mVar 0) (mBin fAdd (mVar 1) (mC (.int 1))))))) mNil)))
noncomputable def F_q2:List D->Mx D:=mFn 1 1 b_q2
theorem zCP(T:Txt K mg t):FnOk P w K mg base CX0 1 t.f_q2.a t.f_q2.d ["things"] (spD K EW0 F_q2):=by
 refine zg (m:=b_q2) T.f_q2.F zCW rfl rfl rfl fun cdv A outer s H E hr=>?_;have hu:=yJ hr;unfold b_q2;exact(zN (za (DE.w (zU (z0R rfl) (by rfl) T.b_all Bt.b_all (zL (DE.w (DF.de (ye (N:=["things"]) (sc:=(zC (top 9))) (N':=["things","k"]) rfl rfl rfl (by decide +kernel) yN (yp (by rfl) T.b_range (zL (DE.w (zk z2k (DE.w (zU yU (by rfl) T.b_len Bt.b_len (zL (zH (pv 0)) zO))) (DE.w zM))) zO)) (fun _ _ _ _=>wK) (fun _ _ _ _=>(xU (z2C (Nat.lt_of_succ_lt hu)) (DE.w (yI hu (zH (pv 0)) (zH (pv 1)) (fun _ _=>rfl))) (DE.w (yI hu (zH (pv 0)) (DE.w (zk zx (zH (pv 1)) (DE.w zM))) (fun _ _=>rfl))) (zd _)))))) zO)))))
noncomputable def z6w:Env'->Mx Out:=(sSeq (sSet 2 (mP (yS (mIt (mVar 1)) mYes (mBin fIx (mVar 0) (mVar 3)))))
 (sRet (mIf (zq (mBin (fIn false) (mC .none) (mVar 2))) (mC .none) (zV z01 (zB (mUn xr (mVar 2)) mNil)))))
noncomputable def z2f:List D->Mx D:=mFn 3 2 z6w
theorem z8d(T:Txt K mg t):FnOk P w K mg base CX0 1 t.f_q11.a t.f_q11.d ["door","standing"] (spD K EW0 z2f):=by
 refine zg (m:=z6w) T.f_q11.F sc_q11 rfl rfl rfl fun cdv A outer s H E hr=>?_;have hu:=yJ hr;unfold z6w;exact(zJ (z5q (i:=2) (N:=["door","standing","rooms"]) (sc:=(zC (top 19))) (N':=["door","standing","rooms","room"]) rfl rfl rfl (by decide +kernel) sc_q11.nd rfl rfl yN (xT (zH (pv 1))) (fun _ _ _ _=>wK) (fun _ _ _ _=>(yI hu (zH (pv 0)) (zH (pv 3)) (fun _ _=>rfl))))
   (zN (za (z9T (zj (z8j hr.units) (DE.w xV) (zH (pv 2)) (by rfl)) (DE.w xV) (DE.w (xj wa (by rfl) T.b_tuple Bt.b_tuple (zL (DE.w (z0H rfl (by rfl) T.b_sorted Bt.b_sorted (by rfl) T.b_set Bt.b_set (zH (pv 2)))) zO)))))))
noncomputable def z7m:Env'->Mx Out:=(sSeq (sSet 1 (mP (mSeq PyData.list (zB (mP (mSeq PyData.tuple mNil)) mNil))))
 (sSeq (sFor (mRng yl (zB (mVar 0) mNil)) (τ1 2) (sSet 1 (mBin fAdd (mVar 1) (mP (yS (mIt (mVar 1)) mYes (mBin fAdd (mVar 3) (mP (mSeq PyData.tuple (zB (mVal 2) mNil)))))))))
 (sRet (mSl (mVar 1) (wZ (mC (.int 1))) xL))))
noncomputable def z50:List D->Mx D:=mFn 3 1 z7m
theorem zCD(T:Txt K mg t):FnOk P w K mg base CX0 1 t.f_q22.a t.f_q22.d ["many"] (spD K EW0 z50):=by
 refine zg (m:=z7m) T.f_q22.F sc_q22 rfl rfl rfl fun cdv A outer s H E hr=>?_;have hu:=yJ hr;unfold z7m;exact(zJ (yD (i:=1) sc_q22.nd rfl (by first | exact Or.inl rfl | exact Or.inr rfl) (DF.de (yA (zA (yY zD) zD))))
   (zJ (w9 PassesOwn.never rfl (yp (by rfl) T.b_range (zL (zH (pv 0)) zO)) (xD (yc (i:=2) sc_q22.nd rfl (by first | exact Or.inl rfl | exact Or.inr rfl)))
   (zN (yD (i:=1) sc_q22.nd rfl (by first | exact Or.inl rfl | exact Or.inr rfl) (zk zx (zH (pv 1)) (DE.w (DF.de (ye (N:=["many","found","room"]) (sc:=(zC (top 30))) (N':=["many","found","room","standing"]) rfl rfl rfl (by decide +kernel) yN (xT (zH (pv 1))) (fun _ _ _ _=>wK) (fun _ _ _ _=>(zk zx (zH (pv 3)) (DE.w (yY (zA (zF (pv 2)) zD))))))))))))
   (zN (za (DE.w (z5K (zH (pv 1)) (wp (DE.w zM)) z10))))))
noncomputable def ub(ns:List Int)(k:Int):Int:=if k<ns.length then ns.getD k.toNat 0 else if ns=[]then 0 else ns.getD (k % ns.length).toNat 0*31+k
noncomputable def z4G:List D->Mx D
 | [.scr ns,.p (.int k)]=>if 0<=k then pure (.p (.int (ub ns k)))else Mx.bad
 | _=>Mx.bad
theorem z74{α:Type}{xs:List α}{i:Int}{v:α}(h0:0<=i)(h:xs[i.toNat]?=some v):atI xs i=some v:=by
 have:=z1A h
 rwa [Int.toNat_of_nonneg h0]at this
theorem zBZ(T:Txt K mg t):FnOk P w K mg base CX0 1 t.f_q24.a t.f_q24.d ["_law_script","_law_k"] (spD K EW0 z4G):=by
 have shape:∀{vs:List V} {H:Hp} {Q:VK} {E:XK},spD K EW0 z4G vs H Q E->∃(a:Addr) (k:Int) (ns:List Int),vs=[.ref a,.int k]/\SqL K H a (ns.map V.int)/\0<=k/\∀H',Same H H'->Q (.int (ub ns k)) H':=fun{vs H Q E} h=>by
  obtain⟨g,n,ds,h0,hs,ht,hd,r,q⟩:=h
  match ds,q,r with
  | [.scr ns,.p (.int k)],q,r=>
   by_cases hk:0<=k
   ·have q:AftG (fun _ H' d v=>Rep g g.U H' d v) g (fun c H'=>EW0 c E H') H ((if 0<=k then pure (.p (.int (ub ns k)))else Mx.bad:Mx D) n) Q:=q;rw[if_pos hk]at q;obtain⟨v,u,rfl,⟨e1,rfl⟩,r2⟩:=all2 r;have e2:u=.int k:=by simpa only[Rep,DatS]using r2
    subst e2 e1;refine⟨g.aS,k,g.ns,rfl,?_,hk,fun H' s=>q _ H' s.kp (s.twn ht) (di:DatS g.U H' (.int _) (.int _))⟩;rcases hs with hs | ⟨_,hs⟩
    ·exact hs H
    ·exact hs
   ·have q:AftG (fun _ H' d v=>Rep g g.U H' d v) g (fun c H'=>EW0 c E H') H ((if 0<=k then pure (.p (.int (ub ns k)))else Mx.bad:Mx D) n) Q:=q;rw[if_neg hk]at q;exact q.elim
 refine T.f_q24.F.ok zAR (fun vs H Q E h=>?_) (fun cdv A outer s H vs Q E hr h=>?_)
 ·obtain⟨a,k,ns,rfl,_⟩:=shape h;rfl
 ·obtain⟨a,k,ns,rfl,hS,hk,q⟩:=shape h;have hu:=yJ hr;have item:∀(j:Int),0<=j->j<(ns.length:Int)->atI (ns.map V.int) j=some (.int (ns.getD j.toNat 0)):=fun j h1 h2=>by
   have hj:j.toNat<ns.length:=by omega
   exact z74 h1 (by rw[List.getElem?_map,List.getElem?_eq_getElem hj,List.getD_eq_getElem?_getD,List.getElem?_eq_getElem hj];rfl)
  refine⟨_,(uJ (z9b (z2d op_lt (pv 1) (yB call_len_seq (by rfl) T.b_len Bt.b_len (zW (pv 0) pa_nil)) (zd _)) (z0j (z3C (zAH ix_list (pv 0) (pv 1) (fun _ _=>rfl)))) pss_nil)
   (uJ (z9b (z2d (z7O (Nat.lt_of_succ_lt hu)) (pv 0) (z6j pa_nil) (zd _)) (z0j (z3C z24)) pss_nil)
   (z0j (z3C (z6z op_add (z6z op_mul (zAH ix_list (pv 0) (z6z op_mod (pv 1) (yB call_len_seq (by rfl) T.b_len Bt.b_len (zW (pv 0) pa_nil))) (fun _ _=>rfl)) z24) (pv 1)))))),?_⟩
  refine⟨_,rfl,_,rfl,a,_,rfl,.inl hS,_,_,rfl,rfl,_,rfl,ite2 (fun c=>?_) (fun c=>?_)⟩
  ·have c':k<(ns.length:Int):=by simpa using c
   have q1:=q H (Same.refl H);unfold ub at q1;rw[if_pos c']at q1;exact⟨_,rfl,_,rfl,a,_,_,_,rfl,rfl,hS,item k hk c',q1⟩
  ·have c':¬k<(ns.length:Int):=by simpa using c
   refine⟨_,rfl,by decide,fun p hp=>⟨a,p,_,rfl,rfl,(Same.new hp).seq hS,SqL.of zG,_,rfl,ite2 (fun e=>?_) (fun e=>?_)⟩⟩
   ·have e':ns=[]:=by cases ns with
     | nil=>rfl
     | cons _ _=>cases e
    have q1:=q _ (Same.new (o:=.lst []) hp);unfold ub at q1;rw[if_neg c',if_pos e']at q1;exact q1
   ·have e':ns≠[]:=fun z=>e (by rw[z];rfl);have hne:0<ns.length:=List.length_pos_iff.mpr e';have m1:=Int.emod_nonneg k (show(ns.length:Int)≠0 by omega);have m2:=Int.emod_lt_of_pos k (show(0:Int)<ns.length by omega);have q1:=q _ (Same.new (o:=.lst []) hp);unfold ub at q1;rw[if_neg c',if_neg e']at q1;refine⟨_,rfl,_,rfl,_,rfl,a,_,rfl,.inl ((Same.new hp).seq hS),_,_,rfl,rfl,(by rw[List.length_map];omega),a,_,_,_,rfl,rfl,(Same.new hp).seq hS,(by rw[List.length_map];exact item _ m1 m2),_,_,rfl,rfl,.inr ⟨by decide,by decide⟩,_,rfl,_,_,rfl,rfl,q1⟩
noncomputable def z8G:Env'->Mx Out:=(sRet (zV z01 (zB (mUn xr (mP (yS (mIt (mVar 1)) mYes (mBin fIx (mBin fIx (mBin fIx (mVar 0) (mC (.int 1))) (mVar 2)) (mVar 3))))) mNil)))
noncomputable def z2h:List D->Mx D:=mFn 3 3 z8G
theorem z8W(T:Txt K mg t):FnOk P w K mg base CX0 1 t.f_q30.a t.f_q30.d ["_law_house_here","_law_places","_law_door"] (spD K EW0 z2h):=by
 refine zg (m:=z8G) T.f_q30.F zB8 rfl rfl rfl fun cdv A outer s H E hr=>?_;have hu:=yJ hr;unfold z8G;exact(zN (za (DE.w (xj wa (by rfl) T.b_tuple Bt.b_tuple (zL (DE.w (z0H rfl (by rfl) T.b_sorted Bt.b_sorted (by rfl) T.b_set Bt.b_set (DE.w (DF.de (ye (N:=["_law_house_here","_law_places","_law_door"]) (sc:=(zC (top 39))) (N':=["_law_house_here","_law_places","_law_door","_law_place"]) rfl rfl rfl (by decide +kernel) yN (xT (zH (pv 1))) (fun _ _ _ _=>wK) (fun _ _ _ _=>(yI hu (DE.w (yI hu (DE.w (yI hu (zH (pv 0)) (DE.w zM) (fun _ _=>rfl))) (zH (pv 2)) (fun _ _=>rfl))) (zH (pv 3)) (fun _ _=>rfl)))))))) zO)))))
noncomputable def b_q1:Env'->Mx Out:=(sRet (uC (mUn (fIsi "tuple") (mVar 0)) (zV (yQ fun bs=>bs.all id) (zB (mP (yS (mIt (mVar 0)) mYes (zQ F_q0 (zB (mVal 3) (zB (mVal 1) (zB (mVal 2) mNil)))))) mNil))))
noncomputable def F_q1:List D->Mx D:=mFn 3 3 b_q1
theorem zAm(T:Txt K mg t):FnOk P w K mg base CX0 2 t.f_q1.a t.f_q1.d ["thing","least","most"] (spD K EW0 F_q1):=by
 have G_q0:FnOk P w K mg base CX0 1 t.f_q0.a t.f_q0.d ["thing","least","most"] (spD K EW0 F_q0):=zAt T;refine zg (m:=b_q1) T.f_q1.F zCs rfl rfl rfl fun cdv A outer s H E hr=>?_;have hu:=yJ hr;unfold b_q1;exact(zN (za (DE.w (w8 (DE.w (u8 wR (yB xC (by rfl) T.b_isinstance Bt.b_isinstance (zW (zH (pv 0)) (zW (xc (v:=.ty "tuple") (by rfl) T.b_tuple Bt.b_tuple rfl) pa_nil))))) (wb (zU (z0R rfl) (by rfl) T.b_all Bt.b_all (zL (DE.w (DF.de (ye (N:=["thing","least","most"]) (sc:=(zC (top 8))) (N':=["thing","least","most","each"]) rfl rfl rfl (by decide +kernel) yN (xT (zH (pv 0))) (fun _ _ _ _=>wK) (fun _ _ _ _=>(zK (E:=E0) G_q0 (fun _ _ z=>z.elim) (hr.mono (by decide)) (by rfl) T.f_q0.m T.f_q0.k T.f_q0.d zX (zA (zF (pv 3)) (zA (zF (pv 1)) (zA (zF (pv 2)) zD)))))))) zO)))))))
noncomputable def b_q5:Env'->Mx Out:=(sSeq (sIf (mOrT (xm (mTru (mUn (fIsi "tuple") (mVar 0)))) (zq (mBin (fEq true) (zV fLen (zB (mVar 0) mNil)) (mC (.int 2))))) (sRet (mC (.bool false))) sNil)
 (sRet (uC (zQ F_q0 (zB (mBin fIx (mVar 0) (mC (.int 0))) (zB (mC (.int 1)) (zB (mC (.int z95)) mNil)))) (mUn (fIsi "tuple") (mBin fIx (mVar 0) (mC (.int 1)))))))
noncomputable def F_q5:List D->Mx D:=mFn 1 1 b_q5
theorem zCf(T:Txt K mg t):FnOk P w K mg base CX0 2 t.f_q5.a t.f_q5.d ["thing"] (spD K EW0 F_q5):=by
 have G_q0:FnOk P w K mg base CX0 1 t.f_q0.a t.f_q0.d ["thing","least","most"] (spD K EW0 F_q0):=zAt T;obtain⟨u_q35,g_q35,r_q35⟩:=T.g_q35;refine zg (m:=b_q5) T.f_q5.F zCL rfl rfl rfl fun cdv A outer s H E hr=>?_;have hu:=yJ hr;unfold b_q5;exact(zJ (xE (DPW.dt (w4 (xS (zt (DE.w (u8 wR (yB xC (by rfl) T.b_isinstance Bt.b_isinstance (zW (zH (pv 0)) (zW (xc (v:=.ty "tuple") (by rfl) T.b_tuple Bt.b_tuple rfl) pa_nil))))) (fun _=>rfl))) (wF (zj (wS hr.units) (DE.w (zU yU (by rfl) T.b_len Bt.b_len (zL (zH (pv 0)) zO))) (DE.w zM) (zd _))))) (zN (za (DE.w xx))) yK)
   (zN (za (DE.w (w8 (DE.w (zK (E:=E0) G_q0 (fun _ _ z=>z.elim) (hr.mono (by decide)) (by rfl) T.f_q0.m T.f_q0.k T.f_q0.d zX (zA (yI hu (zH (pv 0)) (DE.w zM) (fun _ _=>rfl)) (zA zM (zA (z5s (z2s (by rfl) g_q35 r_q35)) zD))))) (wb (u8 wR (yB xC (by rfl) T.b_isinstance Bt.b_isinstance (zW (DE.w (yI hu (zH (pv 0)) (DE.w zM) (fun _ _=>rfl))) (zW (xc (v:=.ty "tuple") (by rfl) T.b_tuple Bt.b_tuple rfl) pa_nil))))))))))
noncomputable def z81(t:Adr):Env'->Mx Out:=(sSeq (sOwn 3 (mD1 (mVal 0) (mP (mSeq PyData.tuple mNil))))
 (sSeq (sOwn 4 (mSeq PyData.list (zB (mVal 0) mNil)))
 (sSeq (z0O 100000 (mTru (mVar 4)) (sSeq (z3L 5 4 (mC (.int 0)))
 (sFor (mRng yl (zB (zV fLen (zB (mVar 1) mNil)) mNil)) (τ1 6) (sSeq (sSet 7 (z3W 2 t.f_q11.a z2f (zB (mBin fIx (mVar 1) (mVar 6)) (zB (mVal 5) mNil))))
 (sIf (wv (zq (mBin (fIs true) (mVar 7) (mC .none))) (zq (mBin (fIn true) (mVar 7) (mVar 3)))) (sSeq (z0Q 3 (mVal 7) (mBin fAdd (mBin fIx (mVar 3) (mVar 5)) (mP (mSeq PyData.tuple (zB (mVal 6) mNil)))))
 (sApp 4 (mVal 7))) sNil)))))
 (sRet (mVar 3)))))
noncomputable def z6c(t:Adr):List D->Mx D:=mFn 8 3 (z81 t)
theorem zB9(T:Txt K mg t):FnOk P w K mg base CX0 2 t.f_q12.a t.f_q12.d ["start","doors","behind"] (spD K EW0 (z6c t)):=by
 have G_q11:FnOk P w K mg base CX0 1 t.f_q11.a t.f_q11.d ["door","standing"] (spD K EW0 z2f):=z8d T;refine zg (m:=(z81 t)) T.f_q12.F sc_q12 rfl rfl rfl fun cdv A outer s H E hr=>?_;have hu:=yJ hr;unfold z81;exact(zJ (wx (i:=3) sc_q12.nd rfl (by first | exact Or.inl rfl | exact Or.inr rfl) (zB0 hr.units (zF (pv 0)) (yY zD)))
   (zJ (wx (i:=4) sc_q12.nd rfl (by first | exact Or.inl rfl | exact Or.inr rfl) (yA (zA (zF (pv 0)) zD)))
   (zJ (z3F (k:=100000) PassesOwn.never (zt (zH (pv 4)) (fun _=>rfl)) (zJ (z7P (i:=5) sc_q12.nd rfl (by first | exact Or.inl rfl | exact Or.inr rfl) (z4H PySem.F.plainAttrs_list PySem.F.slot_list_pop PySem.F.type_list_pop z79 (pv 4) (zW zM pa_nil)))
   (zN (w9 PassesOwn.never rfl (yp (by rfl) T.b_range (zL (DE.w (zU yU (by rfl) T.b_len Bt.b_len (zL (zH (pv 1)) zO))) zO)) (xD (yc (i:=6) sc_q12.nd rfl (by first | exact Or.inl rfl | exact Or.inr rfl)))
   (zJ (yD (i:=7) sc_q12.nd rfl (by first | exact Or.inl rfl | exact Or.inr rfl) (z7j (E:=E0) G_q11 (fun _ _ z=>z.elim) (hr.mono (by decide)) (pv 2) T.f_q11.k T.f_q11.d zX (zA (yI hu (zH (pv 1)) (zH (pv 6)) (fun _ _=>rfl)) (zA (zF (pv 5)) zD))))
   (zN (xE (DPW.dt (wj (zj z2I (zH (pv 7)) (DE.w xV) (zd _)) (xu (zj (wd hr.units) (zH (pv 7)) (zH (pv 3)) (by rfl))))) (zJ (z6Z hu (pv 3) (zF (pv 7)) (zk zx (DE.w (yI hu (zH (pv 3)) (zH (pv 5)) (fun _ _=>rfl))) (DE.w (yY (zA (zF (pv 6)) zD)))) rfl)
   (zN (z5C (z4H PySem.F.plainAttrs_list PySem.F.slot_list_append PySem.F.type_list_append wc (pv 4) (zW (zF (pv 7)) pa_nil))))) yK)))))))
   (zN (za (zH (pv 3)))))))
noncomputable def z7Y:Env'->Mx Out:=(sSeq (sOwn 3 (z2j (mP (yS (mIt (mVar 2)) mYes (mP (mSeq PyData.tuple (zB (mVal 5) (zB (mC (.bool true)) mNil))))))))
 (sSeq (z6a 3)
 (sSeq (sFor (mIt (mBin fIx (mVar 0) (mC (.int 1)))) (τ1 4) (sIf (xm (mTru (zV (yQ fun bs=>bs.all id) (zB (mP (yS (mIt (mVar 2)) mYes (mInN 3 (zQ z2f (zB (mVal 4) (zB (mVal 5) mNil)))))) mNil)))) (sRet (mC (.bool false))) sNil))
 (sRet (mInN 3 (mVal 1))))))
noncomputable def z5P:List D->Mx D:=mFn 5 3 z7Y
theorem zBR(T:Txt K mg t):FnOk P w K mg base CX0 2 t.f_q16.a t.f_q16.d ["house","places","standings"] (spD K EW0 z5P):=by
 have G_q11:FnOk P w K mg base CX0 1 t.f_q11.a t.f_q11.d ["door","standing"] (spD K EW0 z2f):=z8d T;refine zg (m:=z7Y) T.f_q16.F sc_q16 rfl rfl rfl fun cdv A outer s H E hr=>?_;have hu:=yJ hr;unfold z7Y;exact(zJ (wx (i:=3) sc_q16.nd rfl (by first | exact Or.inl rfl | exact Or.inr rfl) (z9v rfl hr.units (by rfl) T.b_dict Bt.b_dict (DF.de (ye (N:=["house","places","standings","listed","door"]) (sc:=(zC (top 24))) (N':=["house","places","standings","listed","door","standing"]) rfl rfl rfl (by decide +kernel) yN (xT (zH (pv 2))) (fun _ _ _ _=>wK) (fun _ _ _ _=>(yY (zA (zF (pv 5)) (zA xx zD))))))))
   (zJ (z8B hr.units (pv 3) z8w zAf rfl)
   (zJ (w9 PassesOwn.never rfl (z6D (yI hu (zH (pv 0)) (DE.w zM) (fun _ _=>rfl))) (xD (yc (i:=4) sc_q16.nd rfl (by first | exact Or.inl rfl | exact Or.inr rfl)))
   (zN (xE (xS (zt (DE.w (zU (z0R rfl) (by rfl) T.b_all Bt.b_all (zL (DE.w (DF.de (ye (N:=["house","places","standings","listed","door"]) (sc:=(zC (top 24))) (N':=["house","places","standings","listed","door","standing"]) rfl rfl rfl (by decide +kernel) yN (xT (zH (pv 2))) (fun _ _ _ _=>wK) (fun _ _ _ _=>(z8y hr.units (zK (E:=E0) G_q11 (fun _ _ z=>z.elim) (hr.mono (by decide)) (by rfl) T.f_q11.m T.f_q11.k T.f_q11.d zX (zA (zF (pv 4)) (zA (zF (pv 5)) zD))) (pv 3) rfl))))) zO))) (fun _=>rfl))) (zN (za (DE.w xx))) yK)))
   (zN (za (DE.w (z8y hr.units (zF (pv 1)) (pv 3) rfl)))))))
noncomputable def z7T:Env'->Mx Out:=(sSeq (sSet 3 (mBin fMod (mBin fMul (mBin fAdd (mBin fAdd (zQ z4G (zB (mVal 0) (zB (mVal 1) mNil))) (mBin fMul (mC (.int 7919)) (mVar 1))) (mC (.int 1))) (mC (.int 48271))) (mC (.int 2147483647))))
 (sRet (mBin fMod (mBin fMod (mBin fAdd (mBin fAdd (mBin fMul (mVar 3) (mVar 3)) (mBin fMul (mC (.int 7)) (mVar 3))) (mVar 1)) (mC (.int 2147483629))) (mVar 2))))
noncomputable def z5Y:List D->Mx D:=mFn 4 3 z7T
theorem zAY(T:Txt K mg t):FnOk P w K mg base CX0 2 t.f_q25.a t.f_q25.d ["_law_script","_law_k","_law_many"] (spD K EW0 z5Y):=by
 have G_q24:FnOk P w K mg base CX0 1 t.f_q24.a t.f_q24.d ["_law_script","_law_k"] (spD K EW0 z4G):=zBZ T;refine zg (m:=z7T) T.f_q25.F sc_q25 rfl rfl rfl fun cdv A outer s H E hr=>?_;have hu:=yJ hr;unfold z7T;exact(zJ (yD (i:=3) sc_q25.nd rfl (by first | exact Or.inl rfl | exact Or.inr rfl) (zk z0k (DE.w (zk uk (DE.w (zk zx (DE.w (zk zx (DE.w (zK (E:=E0) G_q24 (fun _ _ z=>z.elim) (hr.mono (by decide)) (by rfl) T.f_q24.m T.f_q24.k T.f_q24.d zX (zA (zF (pv 0)) (zA (zF (pv 1)) zD)))) (DE.w (zk uk (DE.w zM) (zH (pv 1)))))) (DE.w zM))) (DE.w zM))) (DE.w zM)))
   (zN (za (DE.w (zk z0k (DE.w (zk z0k (DE.w (zk zx (DE.w (zk zx (DE.w (zk uk (zH (pv 3)) (zH (pv 3)))) (DE.w (zk uk (DE.w zM) (zH (pv 3)))))) (zH (pv 1)))) (DE.w zM))) (zH (pv 2)))))))
noncomputable def z7J:Env'->Mx Out:=(sSeq (sOwn 2 (mD1 (mVal 1) (mP (mSeq PyData.tuple mNil))))
 (sSeq (sSet 3 (mP (mSeq PyData.list (zB (mVal 1) mNil))))
 (sSeq (z0O 1000 (zq (mBin (fEq true) (mVar 3) (mP (mSeq PyData.list mNil)))) (sSeq (sOwn 4 (mSeq PyData.list mNil))
 (sSeq (sFor (mIt (mVal 3)) (τ1 5) (sFor (mRng yl (zB (zV fLen (zB (mBin fIx (mVar 0) (mC (.int 1))) mNil)) mNil)) (τ1 6) (sSeq (sSet 7 (zQ z2h (zB (mVal 0) (zB (mVal 5) (zB (mVal 6) mNil)))))
 (sSeq (sSet 8 (mBin fAdd (mBin fIx (mVar 2) (mVar 5)) (mP (mSeq PyData.tuple (zB (mVal 6) mNil)))))
 (sIf (mOrT (zq (mBin (fIn true) (mVar 7) (mVar 2))) (wv (zq (mBin (fEq false) (zV fLen (zB (mBin fIx (mVar 2) (mVar 7)) mNil)) (zV fLen (zB (mVar 8) mNil)))) (zq (mBin fLt (mVar 8) (mBin fIx (mVar 2) (mVar 7)))))) (sSeq (sIf (zq (mBin (fIn true) (mVar 7) (mVar 2))) (sApp 4 (mVal 7)) sNil)
 (z0Q 2 (mVal 7) (mVal 8))) sNil)))))
 (z9N 3 4))))
 (sRet (mVar 2)))))
noncomputable def z12:List D->Mx D:=mFn 9 2 z7J
theorem zBI(T:Txt K mg t):FnOk P w K mg base CX0 2 t.f_q31.a t.f_q31.d ["_law_house_here","_law_places"] (spD K EW0 z12):=by
 have G_q30:FnOk P w K mg base CX0 1 t.f_q30.a t.f_q30.d ["_law_house_here","_law_places","_law_door"] (spD K EW0 z2h):=z8W T;refine zg (m:=z7J) T.f_q31.F sc_q31 rfl rfl rfl fun cdv A outer s H E hr=>?_;have hu:=yJ hr;unfold z7J;exact(zJ (wx (i:=2) sc_q31.nd rfl (by first | exact Or.inl rfl | exact Or.inr rfl) (zB0 hr.units (zF (pv 1)) (yY zD)))
   (zJ (yD (i:=3) sc_q31.nd rfl (by first | exact Or.inl rfl | exact Or.inr rfl) (DF.de (yA (zA (zF (pv 1)) zD))))
   (zJ (z3F (k:=1000) PassesOwn.never (zj (wS hr.units) (zH (pv 3)) (DE.w (DF.de (yA zD))) (zd _)) (zJ (wx (i:=4) sc_q31.nd rfl (by first | exact Or.inl rfl | exact Or.inr rfl) (yA zD))
   (zJ (w9 PassesOwn.never rfl (z6D (zF (pv 3))) (xD (yc (i:=5) sc_q31.nd rfl (by first | exact Or.inl rfl | exact Or.inr rfl)))
   (zN (w9 PassesOwn.never rfl (yp (by rfl) T.b_range (zL (DE.w (zU yU (by rfl) T.b_len Bt.b_len (zL (DE.w (yI hu (zH (pv 0)) (DE.w zM) (fun _ _=>rfl))) zO))) zO)) (xD (yc (i:=6) sc_q31.nd rfl (by first | exact Or.inl rfl | exact Or.inr rfl)))
   (zJ (yD (i:=7) sc_q31.nd rfl (by first | exact Or.inl rfl | exact Or.inr rfl) (zK (E:=E0) G_q30 (fun _ _ z=>z.elim) (hr.mono (by decide)) (by rfl) T.f_q30.m T.f_q30.k T.f_q30.d zX (zA (zF (pv 0)) (zA (zF (pv 5)) (zA (zF (pv 6)) zD)))))
   (zJ (yD (i:=8) sc_q31.nd rfl (by first | exact Or.inl rfl | exact Or.inr rfl) (zk zx (DE.w (yI hu (zH (pv 2)) (zH (pv 5)) (fun _ _=>rfl))) (DE.w (yY (zA (zF (pv 6)) zD)))))
   (zN (xE (DPW.dt (w4 (zj (wd hr.units) (zH (pv 7)) (zH (pv 2)) (by rfl)) (wF (DPW.dt (wj (zj (xl hr.units) (DE.w (zU yU (by rfl) T.b_len Bt.b_len (zL (DE.w (yI hu (zH (pv 2)) (zH (pv 7)) (fun _ _=>rfl))) zO))) (DE.w (zU yU (by rfl) T.b_len Bt.b_len (zL (zH (pv 8)) zO))) (zd _)) (xu (zj (z2C (Nat.lt_of_succ_lt hu)) (zH (pv 8)) (DE.w (yI hu (zH (pv 2)) (zH (pv 7)) (fun _ _=>rfl))) (zd _)))))))) (zJ (xE (zj (wd hr.units) (zH (pv 7)) (zH (pv 2)) (by rfl)) (zN (z5C (z4H PySem.F.plainAttrs_list PySem.F.slot_list_append PySem.F.type_list_append wc (pv 4) (zW (zF (pv 7)) pa_nil)))) yK)
   (zN (z6Z hu (pv 2) (zF (pv 7)) (zF (pv 8)) rfl))) yK)))))))
   (zN (zA5 (i:=3) sc_q31.nd rfl (by first | exact Or.inl rfl | exact Or.inr rfl) (pv 4))))))
   (zN (za (zH (pv 2)))))))
noncomputable def z89:Env'->Mx Out:=(sSeq (sFor (mIt (mVal 2)) (τ1 3) (sSeq (sIf (mOrT (xm (mTru (mUn (fIsi "tuple") (mVar 3)))) (mOrT (zq (mBin fLt (zV fLen (zB (mVar 3) mNil)) (mC (.int 2)))) (mOrT (xm (zq (mBin (fCmp fun i j=>decide (i<=j)) (mC (.int 0)) (mBin fIx (mVar 3) (mC (.int 0)))))) (xm (zq (mBin fLt (mBin fIx (mVar 3) (mUn fNeg (mC (.int 1)))) (mBin fIx (mVar 0) (mC (.int 0))))))))) (sRet (mC (.bool false))) sNil)
 (sSeq (sIf (xm (mTru (zV (yQ fun bs=>bs.all id) (zB (mP (z1X (zB (mVal 3) (zB (mSl (mVar 3) (wZ (mC (.int 1))) xL) mNil)) mYes (mBin fLt (mVar 5) (mVar 6)))) mNil)))) (sRet (mC (.bool false))) sNil)
 (sFor (mRng yl (zB (zV fLen (zB (mBin fIx (mVar 0) (mC (.int 1))) mNil)) mNil)) (τ1 4) (sIf (zq (mBin (fIn true) (zQ z2h (zB (mVal 0) (zB (mVal 3) (zB (mVal 4) mNil)))) (mVar 2))) (sRet (mC (.bool false))) sNil)))))
 (sRet (mBin (fIn false) (mVar 1) (mVar 2))))
noncomputable def z1d:List D->Mx D:=mFn 5 3 z89
theorem zBL(T:Txt K mg t):FnOk P w K mg base CX0 2 t.f_q32.a t.f_q32.d ["_law_house_here","_law_places","_law_thing"] (spD K EW0 z1d):=by
 have G_q30:FnOk P w K mg base CX0 1 t.f_q30.a t.f_q30.d ["_law_house_here","_law_places","_law_door"] (spD K EW0 z2h):=z8W T;refine zg (m:=z89) T.f_q32.F sc_q32 rfl rfl rfl fun cdv A outer s H E hr=>?_;have hu:=yJ hr;unfold z89;exact(zJ (w9 PassesOwn.never rfl (z6D (zF (pv 2))) (xD (yc (i:=3) sc_q32.nd rfl (by first | exact Or.inl rfl | exact Or.inr rfl)))
   (zJ (xE (DPW.dt (w4 (xS (zt (DE.w (u8 wR (yB xC (by rfl) T.b_isinstance Bt.b_isinstance (zW (zH (pv 3)) (zW (xc (v:=.ty "tuple") (by rfl) T.b_tuple Bt.b_tuple rfl) pa_nil))))) (fun _=>rfl))) (w4 (zj (z2C (Nat.lt_of_succ_lt hu)) (DE.w (zU yU (by rfl) T.b_len Bt.b_len (zL (zH (pv 3)) zO))) (DE.w zM) (zd _)) (w4 (xS (zj (xF z5O) (DE.w zM) (DE.w (yI hu (zH (pv 3)) (DE.w zM) (fun _ _=>rfl))) (zd _))) (wF (xS (zj (z2C (Nat.lt_of_succ_lt hu)) (DE.w (yI hu (zH (pv 3)) (DE.w (z8Z (DE.w zM))) (fun _ _=>rfl))) (DE.w (yI hu (zH (pv 0)) (DE.w zM) (fun _ _=>rfl))) (zd _)))))))) (zN (za (DE.w xx))) yK)
   (zJ (xE (xS (zt (DE.w (zU (z0R rfl) (by rfl) T.b_all Bt.b_all (zL (DE.w (DF.de (z6u (N:=["_law_house_here","_law_places","_law_thing","_law_some_here","_law_door"]) (sc:=(zC (top 41))) (N':=["_law_house_here","_law_places","_law_thing","_law_some_here","_law_door","_law_one","_law_other"]) (xs:=["_law_one","_law_other"]) rfl rfl rfl (by decide +kernel) rfl yN (by rfl) T.b_zip (zA (zF (pv 3)) (zA (z5K (zH (pv 3)) (wp (DE.w zM)) z10) zD)) (fun _ _ _ _=>wK) (fun _ _ _ _=>(xU (z2C (Nat.lt_of_succ_lt hu)) (zH (pv 5)) (zH (pv 6)) (zd _))) (fun _ _ _ _=>zAZ rfl (show List.Nodup (["_law_house_here","_law_places","_law_thing","_law_some_here","_law_door","_law_one","_law_other"]:List Str) by decide +kernel) rfl rfl (by first | exact Or.inl rfl | exact Or.inr rfl) (by first | exact Or.inl rfl | exact Or.inr rfl))))) zO))) (fun _=>rfl))) (zN (za (DE.w xx))) yK)
   (zN (w9 PassesOwn.never rfl (yp (by rfl) T.b_range (zL (DE.w (zU yU (by rfl) T.b_len Bt.b_len (zL (DE.w (yI hu (zH (pv 0)) (DE.w zM) (fun _ _=>rfl))) zO))) zO)) (xD (yc (i:=4) sc_q32.nd rfl (by first | exact Or.inl rfl | exact Or.inr rfl)))
   (zN (xE (zj (wd hr.units) (DE.w (zK (E:=E0) G_q30 (fun _ _ z=>z.elim) (hr.mono (by decide)) (by rfl) T.f_q30.m T.f_q30.k T.f_q30.d zX (zA (zF (pv 0)) (zA (zF (pv 3)) (zA (zF (pv 4)) zD))))) (zH (pv 2)) (by rfl)) (zN (za (DE.w xx))) yK)))))))
   (zN (za (DE.w (xU (z8j hr.units) (zH (pv 1)) (zH (pv 2)) (by rfl))))))
noncomputable def b_q3:Env'->Mx Out:=(sRet (uC (zQ F_q1 (zB (mVal 0) (zB (mC (.int 0)) (zB (mBin fSub (mVar 1) (mC (.int 1))) mNil)))) (uC (mBin (fCmp fun i j=>decide (j<=i)) (zV fLen (zB (mVar 0) mNil)) (mC (.int 1))) (zQ F_q2 (zB (mVal 0) mNil)))))
noncomputable def F_q3:List D->Mx D:=mFn 2 2 b_q3
theorem zAW(T:Txt K mg t):FnOk P w K mg base CX0 3 t.f_q3.a t.f_q3.d ["thing","many"] (spD K EW0 F_q3):=by
 have G_q2:FnOk P w K mg base CX0 1 t.f_q2.a t.f_q2.d ["things"] (spD K EW0 F_q2):=zCP T;have G_q1:FnOk P w K mg base CX0 2 t.f_q1.a t.f_q1.d ["thing","least","most"] (spD K EW0 F_q1):=zAm T;refine zg (m:=b_q3) T.f_q3.F zCM rfl rfl rfl fun cdv A outer s H E hr=>?_;have hu:=yJ hr;unfold b_q3;exact(zN (za (DE.w (w8 (DE.w (zK (E:=E0) G_q1 (fun _ _ z=>z.elim) (hr.mono (by decide)) (by rfl) T.f_q1.m T.f_q1.k T.f_q1.d zX (zA (zF (pv 0)) (zA zM (zA (zk z2k (zH (pv 1)) (DE.w zM)) zD))))) (w8 (DE.w (xU (xF zBb) (DE.w (zU yU (by rfl) T.b_len Bt.b_len (zL (zH (pv 0)) zO))) (DE.w zM) (zd _))) (wb (zK (E:=E0) G_q2 (fun _ _ z=>z.elim) (hr.mono (by decide)) (by rfl) T.f_q2.m T.f_q2.k T.f_q2.d zX (zA (zF (pv 0)) zD))))))))
noncomputable def b_q4:Env'->Mx Out:=(sRet (uC (zQ F_q1 (zB (mVal 0) (zB (mC (.int 0)) (zB (mBin fSub (mVar 1) (mC (.int 1))) mNil)))) (mBin (fEq false) (zV fLen (zB (mVar 0) mNil)) (mVar 1))))
noncomputable def F_q4:List D->Mx D:=mFn 2 2 b_q4
theorem zDA(T:Txt K mg t):FnOk P w K mg base CX0 3 t.f_q4.a t.f_q4.d ["thing","many"] (spD K EW0 F_q4):=by
 have G_q1:FnOk P w K mg base CX0 2 t.f_q1.a t.f_q1.d ["thing","least","most"] (spD K EW0 F_q1):=zAm T;refine zg (m:=b_q4) T.f_q4.F zCx rfl rfl rfl fun cdv A outer s H E hr=>?_;have hu:=yJ hr;unfold b_q4;exact(zN (za (DE.w (w8 (DE.w (zK (E:=E0) G_q1 (fun _ _ z=>z.elim) (hr.mono (by decide)) (by rfl) T.f_q1.m T.f_q1.k T.f_q1.d zX (zA (zF (pv 0)) (zA zM (zA (zk z2k (zH (pv 1)) (DE.w zM)) zD))))) (wb (xU (xl hr.units) (DE.w (zU yU (by rfl) T.b_len Bt.b_len (zL (zH (pv 0)) zO))) (zH (pv 1)) (zd _)))))))
noncomputable def b_q6:Env'->Mx Out:=(sRet (uC (zQ F_q5 (zB (mVal 0) mNil)) (z23 (fCmp fun i j=>decide (i<=j)) (fCmp fun i j=>decide (i<=j)) (mC (.int 1)) (zV fLen (zB (mBin fIx (mVar 0) (mC (.int 1))) mNil)) (mC (.int z9h)))))
noncomputable def F_q6:List D->Mx D:=mFn 1 1 b_q6
theorem zD0(T:Txt K mg t):FnOk P w K mg base CX0 3 t.f_q6.a t.f_q6.d ["thing"] (spD K EW0 F_q6):=by
 have G_q5:FnOk P w K mg base CX0 2 t.f_q5.a t.f_q5.d ["thing"] (spD K EW0 F_q5):=zCf T;obtain⟨u_q36,g_q36,r_q36⟩:=T.g_q36;refine zg (m:=b_q6) T.f_q6.F zCK rfl rfl rfl fun cdv A outer s H E hr=>?_;have hu:=yJ hr;unfold b_q6;exact(zN (za (DE.w (w8 (DE.w (zK (E:=E0) G_q5 (fun _ _ z=>z.elim) (hr.mono (by decide)) (by rfl) T.f_q5.m T.f_q5.k T.f_q5.d zX (zA (zF (pv 0)) zD))) (wb (z3A (xF z5O) (xF z5O) (DE.w zM) (DE.w (zU yU (by rfl) T.b_len Bt.b_len (zL (DE.w (yI hu (zH (pv 0)) (DE.w zM) (fun _ _=>rfl))) zO))) (DE.w (z5s (z2s (by rfl) g_q36 r_q36)))))))))
noncomputable def z52(t:Adr):Env'->Mx Out:=(sRet (zQ (z6c t) (zB (mVal 1) (zB (mBin fIx (mVar 0) (mC (.int 1))) (zB (mFnV t.f_q11.a) mNil)))))
noncomputable def z1j(t:Adr):List D->Mx D:=mFn 2 2 (z52 t)
theorem z8u(T:Txt K mg t):FnOk P w K mg base CX0 3 t.f_q13.a t.f_q13.d ["house","places"] (spD K EW0 (z1j t)):=by
 have G_q12:FnOk P w K mg base CX0 2 t.f_q12.a t.f_q12.d ["start","doors","behind"] (spD K EW0 (z6c t)):=zB9 T;refine zg (m:=(z52 t)) T.f_q13.F zBN rfl rfl rfl fun cdv A outer s H E hr=>?_;have hu:=yJ hr;unfold z52;exact(zN (za (DE.w (zK (E:=E0) G_q12 (fun _ _ z=>z.elim) (hr.mono (by decide)) (by rfl) T.f_q12.m T.f_q12.k T.f_q12.d zX (zA (zF (pv 1)) (zA (yI hu (zH (pv 0)) (DE.w zM) (fun _ _=>rfl)) (zA (zDB (z2s (v:=.ref t.f_q11.a) (by rfl) T.f_q11.m rfl)) zD)))))))
noncomputable def z7g:Env'->Mx Out:=(sSeq (z6S 1)
 (sRet (zQ z5Y (zB (mVal 0) (zB (z5F 1) (zB (mVal 2) mNil))))))
noncomputable def yh:List D->Mx D:=mFn 3 3 z7g
theorem z3N(T:Txt K mg t):FnOk P w K mg base CX0 3 t.f_q26.a t.f_q26.d ["_law_script","_law_town","_law_many"] (spD K EW0 yh):=by
 have G_q25:FnOk P w K mg base CX0 2 t.f_q25.a t.f_q25.d ["_law_script","_law_k","_law_many"] (spD K EW0 z5Y):=zAY T;refine zg (m:=z7g) T.f_q26.F zAx rfl rfl rfl fun cdv A outer s H E hr=>?_;have hu:=yJ hr;unfold z7g;exact(zJ (zA8 (z4H PySem.F.plainAttrs_list PySem.F.slot_list_append PySem.F.type_list_append wc (pv 1) (zW z24 pa_nil)))
   (zN (za (DE.w (zK (E:=E0) G_q25 (fun _ _ z=>z.elim) (hr.mono (by decide)) (by rfl) T.f_q25.m T.f_q25.k T.f_q25.d zX (zA (zF (pv 0)) (zA (zAL (yB call_len_seq (by rfl) T.b_len Bt.b_len (zW (pv 1) pa_nil))) (zA (zF (pv 2)) zD))))))))
noncomputable def b_q7:Env'->Mx Out:=(sRet (uC (zQ F_q6 (zB (mVal 0) mNil)) (zV (yQ fun bs=>bs.all id) (zB (mP (yS (mIt (mBin fIx (mVar 0) (mC (.int 1)))) mYes (zQ F_q4 (zB (mVal 1) (zB (mBin fIx (mVar 0) (mC (.int 0))) mNil))))) mNil))))
noncomputable def F_q7:List D->Mx D:=mFn 1 1 b_q7
theorem zCw(T:Txt K mg t):FnOk P w K mg base CX0 4 t.f_q7.a t.f_q7.d ["thing"] (spD K EW0 F_q7):=by
 have G_q4:FnOk P w K mg base CX0 3 t.f_q4.a t.f_q4.d ["thing","many"] (spD K EW0 F_q4):=zDA T;have G_q6:FnOk P w K mg base CX0 3 t.f_q6.a t.f_q6.d ["thing"] (spD K EW0 F_q6):=zD0 T;refine zg (m:=b_q7) T.f_q7.F zCo rfl rfl rfl fun cdv A outer s H E hr=>?_;have hu:=yJ hr;unfold b_q7;exact(zN (za (DE.w (w8 (DE.w (zK (E:=E0) G_q6 (fun _ _ z=>z.elim) (hr.mono (by decide)) (by rfl) T.f_q6.m T.f_q6.k T.f_q6.d zX (zA (zF (pv 0)) zD))) (wb (zU (z0R rfl) (by rfl) T.b_all Bt.b_all (zL (DE.w (DF.de (ye (N:=["thing"]) (sc:=(zC (top 14))) (N':=["thing","each"]) rfl rfl rfl (by decide +kernel) yN (xT (DE.w (yI hu (zH (pv 0)) (DE.w zM) (fun _ _=>rfl)))) (fun _ _ _ _=>wK) (fun _ _ _ _=>(zK (E:=E0) G_q4 (fun _ _ z=>z.elim) (hr.mono (by decide)) (by rfl) T.f_q4.m T.f_q4.k T.f_q4.d zX (zA (zF (pv 1)) (zA (yI hu (zH (pv 0)) (DE.w zM) (fun _ _=>rfl)) zD))))))) zO)))))))
noncomputable def b_q9:Env'->Mx Out:=(sIf (xm (mTru (zQ F_q3 (zB (mVal 0) (zB (mVal 1) mNil))))) z6P sNil)
noncomputable def F_q9:List D->Mx D:=mFn 2 2 b_q9
theorem zCk(T:Txt K mg t):FnOk P w K mg base CX0 4 t.f_q9.a t.f_q9.d ["places","many"] (spD K EW0 F_q9):=by
 have G_q3:FnOk P w K mg base CX0 3 t.f_q3.a t.f_q3.d ["thing","many"] (spD K EW0 F_q3):=zAW T;refine zg (m:=b_q9) T.f_q9.F zCt rfl rfl rfl fun cdv A outer s H E hr=>?_;have hu:=yJ hr;unfold b_q9;exact(zN (xE (xS (zt (DE.w (zK (E:=E0) G_q3 (fun _ _ z=>z.elim) (hr.mono (by decide)) (by rfl) T.f_q3.m T.f_q3.k T.f_q3.d zX (zA (zF (pv 0)) (zA (zF (pv 1)) zD)))) (fun _=>rfl))) (zN z3K) yK))
noncomputable def z7t(t:Adr):Env'->Mx Out:=(sSeq (sSet 3 (zQ (z1j t) (zB (mVal 0) (zB (mVal 1) mNil))))
 (sSeq (sSet 4 (mP (yr (mVal 3) (zq (mBin (fEq false) (zV fLen (zB (mVar 5) mNil)) (mVar 2))) (mVal 5))))
 (sRet (mIf (mTru (mVar 4)) (mBin fIx (mVar 3) (mBin fIx (mVar 4) (mC (.int 0)))) (mC .none)))))
noncomputable def z6C(t:Adr):List D->Mx D:=mFn 5 3 (z7t t)
theorem zAu(T:Txt K mg t):FnOk P w K mg base CX0 4 t.f_q14.a t.f_q14.d ["house","places","few"] (spD K EW0 (z6C t)):=by
 have G_q13:FnOk P w K mg base CX0 3 t.f_q13.a t.f_q13.d ["house","places"] (spD K EW0 (z1j t)):=z8u T;refine zg (m:=(z7t t)) T.f_q14.F sc_q14 rfl rfl rfl fun cdv A outer s H E hr=>?_;have hu:=yJ hr;unfold z7t;exact(zJ (yD (i:=3) sc_q14.nd rfl (by first | exact Or.inl rfl | exact Or.inr rfl) (zK (E:=E0) G_q13 (fun _ _ z=>z.elim) (hr.mono (by decide)) (by rfl) T.f_q13.m T.f_q13.k T.f_q13.d zX (zA (zF (pv 0)) (zA (zF (pv 1)) zD))))
   (zJ (z3p (i:=4) (N:=["house","places","few","rows","fitting"]) (sc:=(zC (top 22))) (N':=["house","places","few","rows","fitting","standing"]) rfl rfl rfl (by decide +kernel) sc_q14.nd rfl rfl (fun _ _ _ z=>z) (zF (pv 3)) (fun _ _ _ _=>z0F (zj (xl hr.units) (DE.w (zU yU (by rfl) T.b_len Bt.b_len (zL (zH (pv 5)) zO))) (zH (pv 2)) (zd _))) (fun _ _ _ _=>(zF (pv 5))))
   (zN (za (z9T (zt (zH (pv 4)) (fun _=>rfl)) (DE.w (yI hu (zH (pv 3)) (DE.w (yI hu (zH (pv 4)) (DE.w zM) (fun _ _=>rfl))) (fun _ _=>rfl))) (DE.w xV))))))
noncomputable def z7Q(t:Adr):Env'->Mx Out:=(sSeq (sSet 3 (zV yg (zB (zQ (z1j t) (zB (mVal 0) (zB (mVal 1) mNil))) mNil)))
 (sRet (mIf (mTru (zV (yQ fun bs=>bs.any id) (zB (mP (yS (mIt (mVar 3)) mYes (mBin (fEq false) (zV fLen (zB (mVar 4) mNil)) (mVar 2)))) mNil))) (mC .none) (mVar 3))))
noncomputable def z7W(t:Adr):List D->Mx D:=mFn 4 3 (z7Q t)
theorem zAb(T:Txt K mg t):FnOk P w K mg base CX0 4 t.f_q15.a t.f_q15.d ["house","places","few"] (spD K EW0 (z7W t)):=by
 have G_q13:FnOk P w K mg base CX0 3 t.f_q13.a t.f_q13.d ["house","places"] (spD K EW0 (z1j t)):=z8u T;refine zg (m:=(z7Q t)) T.f_q15.F sc_q15 rfl rfl rfl fun cdv A outer s H E hr=>?_;have hu:=yJ hr;unfold z7Q;exact(zJ (yD (i:=3) sc_q15.nd rfl (by first | exact Or.inl rfl | exact Or.inr rfl) (zU (z0S rfl hr.units) (by rfl) T.b_sorted Bt.b_sorted (zL (DE.w (zK (E:=E0) G_q13 (fun _ _ z=>z.elim) (hr.mono (by decide)) (by rfl) T.f_q13.m T.f_q13.k T.f_q13.d zX (zA (zF (pv 0)) (zA (zF (pv 1)) zD)))) zO)))
   (zN (za (z9T (zt (DE.w (zU (zBg rfl) (by rfl) T.b_any Bt.b_any (zL (DE.w (DF.de (ye (N:=["house","places","few","standings"]) (sc:=(zC (top 23))) (N':=["house","places","few","standings","standing"]) rfl rfl rfl (by decide +kernel) yN (xT (zH (pv 3))) (fun _ _ _ _=>wK) (fun _ _ _ _=>(xU (xl hr.units) (DE.w (zU yU (by rfl) T.b_len Bt.b_len (zL (zH (pv 4)) zO))) (zH (pv 2)) (zd _)))))) zO))) (fun _=>rfl)) (DE.w xV) (zH (pv 3))))))
noncomputable def z7B:Env'->Mx Out:=(sRet (uC (zQ F_q3 (zB (mVal 0) (zB (mVal 1) mNil))) (mBin (fCmp fun i j=>decide (j<=i)) (zV fLen (zB (mVar 0) mNil)) (mC (.int 2)))))
noncomputable def z6V:List D->Mx D:=mFn 2 2 z7B
theorem zBB(T:Txt K mg t):FnOk P w K mg base CX0 4 t.f_q19.a t.f_q19.d ["thing","many"] (spD K EW0 z6V):=by
 have G_q3:FnOk P w K mg base CX0 3 t.f_q3.a t.f_q3.d ["thing","many"] (spD K EW0 F_q3):=zAW T;refine zg (m:=z7B) T.f_q19.F zC5 rfl rfl rfl fun cdv A outer s H E hr=>?_;have hu:=yJ hr;unfold z7B;exact(zN (za (DE.w (w8 (DE.w (zK (E:=E0) G_q3 (fun _ _ z=>z.elim) (hr.mono (by decide)) (by rfl) T.f_q3.m T.f_q3.k T.f_q3.d zX (zA (zF (pv 0)) (zA (zF (pv 1)) zD)))) (wb (xU (xF zBb) (DE.w (zU yU (by rfl) T.b_len Bt.b_len (zL (zH (pv 0)) zO))) (DE.w zM) (zd _)))))))
noncomputable def z7A:Env'->Mx Out:=(sRet (mBin fIx (mVar 2) (zQ yh (zB (mVal 0) (zB (mVal 1) (zB (zV fLen (zB (mVar 2) mNil)) mNil))))))
noncomputable def uD:List D->Mx D:=mFn 3 3 z7A
theorem zBc(T:Txt K mg t):FnOk P w K mg base CX0 4 t.f_q27.a t.f_q27.d ["_law_script","_law_town","_law_some_here"] (spD K EW0 uD):=by
 have G_q26:FnOk P w K mg base CX0 3 t.f_q26.a t.f_q26.d ["_law_script","_law_town","_law_many"] (spD K EW0 yh):=z3N T;refine zg (m:=z7A) T.f_q27.F zBe rfl rfl rfl fun cdv A outer s H E hr=>?_;have hu:=yJ hr;unfold z7A;exact(zN (za (DE.w (yI hu (zH (pv 2)) (DE.w (zK (E:=E0) G_q26 (fun _ _ z=>z.elim) (hr.mono (by decide)) (by rfl) T.f_q26.m T.f_q26.k T.f_q26.d zX (zA (zF (pv 0)) (zA (zF (pv 1)) (zA (zU yU (by rfl) T.b_len Bt.b_len (zL (zH (pv 2)) zO)) zD))))) (fun _ _=>rfl)))))
noncomputable def z8E:Env'->Mx Out:=(sSeq (sSet 3 (mBin fAdd (mC (.int 1)) (zQ yh (zB (mVal 0) (zB (mVal 1) (zB (mVal 2) mNil))))))
 (sSeq (sOwn 4 (mSeq PyData.list mNil))
 (sSeq (sFor (mRng yl (zB (mBin fAdd (mC (.int 1)) (zQ yh (zB (mVal 0) (zB (mVal 1) (zB (mC (.int 3)) mNil))))) mNil)) (τ1 5) (sSeq (sSet 6 (zQ yh (zB (mVal 0) (zB (mVal 1) (zB (mVal 3) mNil)))))
 (sSeq (sSet 7 (zQ yh (zB (mVal 0) (zB (mVal 1) (zB (mC (.int 4)) mNil)))))
 (sSeq (sOwn 8 (yS (mRng yl (zB (mVar 3) mNil)) mYes (mBin fMod (mBin fAdd (mVar 9) (mVar 6)) (mVar 3))))
 (sSeq (sIf (zq (mBin (fEq false) (mVar 7) (mC (.int 0)))) (sOwn 8 (yS (mRng yl (zB (mVar 3) mNil)) mYes (zQ yh (zB (mVal 0) (zB (mVal 1) (zB (mVal 3) mNil)))))) sNil)
 (sSeq (sIf (zq (mBin (fEq false) (mVar 7) (mC (.int 1)))) (sSeq (sOwn 8 (z7k yl (zB (mVar 3) mNil)))
 (z7V 8 (zQ yh (zB (mVal 0) (zB (mVal 1) (zB (mVal 3) mNil)))) (zQ yh (zB (mVal 0) (zB (mVal 1) (zB (mVal 3) mNil)))))) sNil)
 (sApp 4 (zV z01 (zB (mVar 8) mNil)))))))))
 (sRet (mP (mSeq PyData.tuple (zB (mVal 3) (zB (zV z01 (zB (mVar 4) mNil)) mNil))))))))
noncomputable def z67:List D->Mx D:=mFn 9 3 z8E
theorem zC2(T:Txt K mg t):FnOk P w K mg base CX0 4 t.f_q28.a t.f_q28.d ["_law_script","_law_town","_law_most"] (spD K EW0 z67):=by
 have G_q26:FnOk P w K mg base CX0 3 t.f_q26.a t.f_q26.d ["_law_script","_law_town","_law_many"] (spD K EW0 yh):=z3N T;refine zg (m:=z8E) T.f_q28.F sc_q28 rfl rfl rfl fun cdv A outer s H E hr=>?_;have hu:=yJ hr;unfold z8E;exact(zJ (yD (i:=3) sc_q28.nd rfl (by first | exact Or.inl rfl | exact Or.inr rfl) (zk zx (DE.w zM) (DE.w (zK (E:=E0) G_q26 (fun _ _ z=>z.elim) (hr.mono (by decide)) (by rfl) T.f_q26.m T.f_q26.k T.f_q26.d zX (zA (zF (pv 0)) (zA (zF (pv 1)) (zA (zF (pv 2)) zD)))))))
   (zJ (wx (i:=4) sc_q28.nd rfl (by first | exact Or.inl rfl | exact Or.inr rfl) (yA zD))
   (zJ (w9 PassesOwn.never rfl (yp (by rfl) T.b_range (zL (DE.w (zk zx (DE.w zM) (DE.w (zK (E:=E0) G_q26 (fun _ _ z=>z.elim) (hr.mono (by decide)) (by rfl) T.f_q26.m T.f_q26.k T.f_q26.d zX (zA (zF (pv 0)) (zA (zF (pv 1)) (zA zM zD))))))) zO)) (xD (yc (i:=5) sc_q28.nd rfl (by first | exact Or.inl rfl | exact Or.inr rfl)))
   (zJ (yD (i:=6) sc_q28.nd rfl (by first | exact Or.inl rfl | exact Or.inr rfl) (zK (E:=E0) G_q26 (fun _ _ z=>z.elim) (hr.mono (by decide)) (by rfl) T.f_q26.m T.f_q26.k T.f_q26.d zX (zA (zF (pv 0)) (zA (zF (pv 1)) (zA (zF (pv 3)) zD)))))
   (zJ (yD (i:=7) sc_q28.nd rfl (by first | exact Or.inl rfl | exact Or.inr rfl) (zK (E:=E0) G_q26 (fun _ _ z=>z.elim) (hr.mono (by decide)) (by rfl) T.f_q26.m T.f_q26.k T.f_q26.d zX (zA (zF (pv 0)) (zA (zF (pv 1)) (zA zM zD)))))
   (zJ (z58 (i:=8) (N:=["_law_script","_law_town","_law_most","_law_many","_law_doors","_law_k","_law_step","_law_kind","_law_door"]) (sc:=(zC (top 37))) (N':=["_law_script","_law_town","_law_most","_law_many","_law_doors","_law_k","_law_step","_law_kind","_law_door","_law_room"]) rfl rfl rfl (by decide +kernel) sc_q28.nd rfl rfl yN (yp (by rfl) T.b_range (zL (zH (pv 3)) zO)) (fun _ _ _ _=>wK) (fun _ _ _ _=>(zk z0k (DE.w (zk zx (zH (pv 9)) (zH (pv 6)))) (zH (pv 3)))))
   (zJ (xE (zj (xl hr.units) (zH (pv 7)) (DE.w zM) (zd _)) (zN (z58 (i:=8) (N:=["_law_script","_law_town","_law_most","_law_many","_law_doors","_law_k","_law_step","_law_kind","_law_door"]) (sc:=(zC (top 37))) (N':=["_law_script","_law_town","_law_most","_law_many","_law_doors","_law_k","_law_step","_law_kind","_law_door","_law_room"]) rfl rfl rfl (by decide +kernel) sc_q28.nd rfl rfl yN (yp (by rfl) T.b_range (zL (zH (pv 3)) zO)) (fun _ _ _ _=>wK) (fun _ _ _ _=>(zK (E:=E0) G_q26 (fun _ _ z=>z.elim) (hr.mono (by decide)) (by rfl) T.f_q26.m T.f_q26.k T.f_q26.d zX (zA (zF (pv 0)) (zA (zF (pv 1)) (zA (zF (pv 3)) zD))))))) yK)
   (zJ (xE (zj (xl hr.units) (zH (pv 7)) (DE.w zM) (zd _)) (zJ (wx (i:=8) sc_q28.nd rfl (by first | exact Or.inl rfl | exact Or.inr rfl) (z2M (xH (z4I rfl) (by rfl) T.b_list Bt.b_list (zW (z5Q (by rfl) T.b_range (zL (zH (pv 3)) zO)) pa_nil))))
   (zN (zAJ (pv 8) (zK (E:=E0) G_q26 (fun _ _ z=>z.elim) (hr.mono (by decide)) (by rfl) T.f_q26.m T.f_q26.k T.f_q26.d zX (zA (zF (pv 0)) (zA (zF (pv 1)) (zA (zF (pv 3)) zD)))) (zK (E:=E0) G_q26 (fun _ _ z=>z.elim) (hr.mono (by decide)) (by rfl) T.f_q26.m T.f_q26.k T.f_q26.d zX (zA (zF (pv 0)) (zA (zF (pv 1)) (zA (zF (pv 3)) zD)))) (zBm (zK (E:=E0) G_q26 (fun _ _ z=>z.elim) (hr.mono (by decide)) (by rfl) T.f_q26.m T.f_q26.k T.f_q26.d zX (zA (zF (pv 0)) (zA (zF (pv 1)) (zA (zF (pv 3)) zD)))) (zBJ (pv 8) (zK (E:=E0) G_q26 (fun _ _ z=>z.elim) (hr.mono (by decide)) (by rfl) T.f_q26.m T.f_q26.k T.f_q26.d zX (zA (zF (pv 0)) (zA (zF (pv 1)) (zA (zF (pv 3)) zD)))) z7E))))) yK)
   (zN (z5C (z4H PySem.F.plainAttrs_list PySem.F.slot_list_append PySem.F.type_list_append wc (pv 4) (zW (xj wa (by rfl) T.b_tuple Bt.b_tuple (zL (zH (pv 8)) zO)) pa_nil))))))))))
   (zN (za (DE.w (yY (zA (zF (pv 3)) (zA (xj wa (by rfl) T.b_tuple Bt.b_tuple (zL (zH (pv 4)) zO)) zD)))))))))
noncomputable def z7r:Env'->Mx Out:=(sSeq (sSet 3 (zV z01 (zB (mP (yS (mRng yl (zB (mVar 2) mNil)) (zq (mBin (fCmp fun i j=>decide (j<i)) (zQ yh (zB (mVal 0) (zB (mVal 1) (zB (mC (.int 3)) mNil)))) (mC (.int 0)))) (mVal 4))) mNil)))
 (sSeq (sIf (zq (mBin (fEq false) (mVar 3) (mP (mSeq PyData.tuple mNil)))) (sRet (mP (mSeq PyData.tuple (zB (zQ yh (zB (mVal 0) (zB (mVal 1) (zB (mVal 2) mNil)))) mNil)))) sNil)
 (sRet (mVar 3))))
noncomputable def z4i:List D->Mx D:=mFn 4 3 z7r
theorem zBj(T:Txt K mg t):FnOk P w K mg base CX0 4 t.f_q29.a t.f_q29.d ["_law_script","_law_town","_law_many"] (spD K EW0 z4i):=by
 have G_q26:FnOk P w K mg base CX0 3 t.f_q26.a t.f_q26.d ["_law_script","_law_town","_law_many"] (spD K EW0 yh):=z3N T;refine zg (m:=z7r) T.f_q29.F sc_q29 rfl rfl rfl fun cdv A outer s H E hr=>?_;have hu:=yJ hr;unfold z7r;exact(zJ (yD (i:=3) sc_q29.nd rfl (by first | exact Or.inl rfl | exact Or.inr rfl) (xj wa (by rfl) T.b_tuple Bt.b_tuple (zL (DE.w (DF.de (ye (N:=["_law_script","_law_town","_law_many","_law_made"]) (sc:=(zC (top 38))) (N':=["_law_script","_law_town","_law_many","_law_made","_law_place"]) rfl rfl rfl (by decide +kernel) (fun _ _ _ z=>z) (yp (by rfl) T.b_range (zL (zH (pv 2)) zO)) (fun _ _ _ _=>z0F (zj (xF z94) (DE.w (zK (E:=E0) G_q26 (fun _ _ z=>z.elim) (hr.mono (by decide)) (by rfl) T.f_q26.m T.f_q26.k T.f_q26.d zX (zA (zF (pv 0)) (zA (zF (pv 1)) (zA zM zD))))) (DE.w zM) (zd _))) (fun _ _ _ _=>(zF (pv 4)))))) zO)))
   (zJ (xE (zj (xl hr.units) (zH (pv 3)) (DE.w (yY zD)) (zd _)) (zN (za (DE.w (yY (zA (zK (E:=E0) G_q26 (fun _ _ z=>z.elim) (hr.mono (by decide)) (by rfl) T.f_q26.m T.f_q26.k T.f_q26.d zX (zA (zF (pv 0)) (zA (zF (pv 1)) (zA (zF (pv 2)) zD)))) zD))))) yK)
   (zN (za (zH (pv 3))))))
noncomputable def b_q8:Env'->Mx Out:=(sIf (xm (mTru (zQ F_q7 (zB (mVal 0) mNil)))) z6P sNil)
noncomputable def F_q8:List D->Mx D:=mFn 1 1 b_q8
theorem zAO(T:Txt K mg t):FnOk P w K mg base CX0 5 t.f_q8.a t.f_q8.d ["house"] (spD K EW0 F_q8):=by
 have G_q7:FnOk P w K mg base CX0 4 t.f_q7.a t.f_q7.d ["thing"] (spD K EW0 F_q7):=zCw T;refine zg (m:=b_q8) T.f_q8.F zCX rfl rfl rfl fun cdv A outer s H E hr=>?_;have hu:=yJ hr;unfold b_q8;exact(zN (xE (xS (zt (DE.w (zK (E:=E0) G_q7 (fun _ _ z=>z.elim) (hr.mono (by decide)) (by rfl) T.f_q7.m T.f_q7.k T.f_q7.d zX (zA (zF (pv 0)) zD))) (fun _=>rfl))) (zN z3K) yK))
noncomputable def z7z:Env'->Mx Out:=(sRet (uC (mUn (fIsi "list") (mVar 0)) (zV (yQ fun bs=>bs.all id) (zB (mP (yS (mIt (mVar 0)) mYes (zQ z6V (zB (mVal 2) (zB (mVal 1) mNil))))) mNil))))
noncomputable def z44:List D->Mx D:=mFn 2 2 z7z
theorem zAw(T:Txt K mg t):FnOk P w K mg base CX0 5 t.f_q20.a t.f_q20.d ["thing","many"] (spD K EW0 z44):=by
 have G_q19:FnOk P w K mg base CX0 4 t.f_q19.a t.f_q19.d ["thing","many"] (spD K EW0 z6V):=zBB T;refine zg (m:=z7z) T.f_q20.F zBU rfl rfl rfl fun cdv A outer s H E hr=>?_;have hu:=yJ hr;unfold z7z;exact(zN (za (DE.w (w8 (DE.w (u8 z7K (yB xC (by rfl) T.b_isinstance Bt.b_isinstance (zW (zH (pv 0)) (zW (xc (v:=.ty "list") (by rfl) T.b_list Bt.b_list rfl) pa_nil))))) (wb (zU (z0R rfl) (by rfl) T.b_all Bt.b_all (zL (DE.w (DF.de (ye (N:=["thing","many"]) (sc:=(zC (top 28))) (N':=["thing","many","each"]) rfl rfl rfl (by decide +kernel) yN (xT (zH (pv 0))) (fun _ _ _ _=>wK) (fun _ _ _ _=>(zK (E:=E0) G_q19 (fun _ _ z=>z.elim) (hr.mono (by decide)) (by rfl) T.f_q19.m T.f_q19.k T.f_q19.d zX (zA (zF (pv 2)) (zA (zF (pv 1)) zD))))))) zO)))))))
noncomputable def z7D:Env'->Mx Out:=(sSeq (z27 (zQ F_q8 (zB (mVal 0) mNil)))
 (z27 (zQ F_q9 (zB (mVal 1) (zB (mBin fIx (mVar 0) (mC (.int 0))) mNil)))))
noncomputable def z0e:List D->Mx D:=mFn 2 2 z7D
theorem z6h(T:Txt K mg t):FnOk P w K mg base CX0 6 t.f_q10.a t.f_q10.d ["house","places"] (spD K EW0 z0e):=by
 have G_q8:FnOk P w K mg base CX0 5 t.f_q8.a t.f_q8.d ["house"] (spD K EW0 F_q8):=zAO T;have G_q9:FnOk P w K mg base CX0 4 t.f_q9.a t.f_q9.d ["places","many"] (spD K EW0 F_q9):=zCk T;refine zg (m:=z7D) T.f_q10.F zBx rfl rfl rfl fun cdv A outer s H E hr=>?_;have hu:=yJ hr;unfold z7D;exact(zJ (wl (zK (E:=E0) G_q8 (fun _ _ z=>z.elim) (hr.mono (by decide)) (by rfl) T.f_q8.m T.f_q8.k T.f_q8.d zX (zA (zF (pv 0)) zD)))
   (zN (wl (zK (E:=E0) G_q9 (fun _ _ z=>z.elim) (hr.mono (by decide)) (by rfl) T.f_q9.m T.f_q9.k T.f_q9.d zX (zA (zF (pv 1)) (zA (yI hu (zH (pv 0)) (DE.w zM) (fun _ _=>rfl)) zD))))))
noncomputable def z7c(t:Adr):Env'->Mx Out:=(sSeq (z27 (zQ z0e (zB (mVal 0) (zB (mVal 1) mNil))))
 (sRet (zQ (z6C t) (zB (mVal 0) (zB (mVal 1) (zB (mC (.int 1)) mNil))))))
noncomputable def uq(t:Adr):List D->Mx D:=mFn 2 2 (z7c t)
theorem z8k(T:Txt K mg t):FnOk P w K mg base CX0 7 t.f_q17.a t.f_q17.d ["house","places"] (spD K EW0 (uq t)):=by
 have G_q10:FnOk P w K mg base CX0 6 t.f_q10.a t.f_q10.d ["house","places"] (spD K EW0 z0e):=z6h T;have G_q14:FnOk P w K mg base CX0 4 t.f_q14.a t.f_q14.d ["house","places","few"] (spD K EW0 (z6C t)):=zAu T;refine zg (m:=(z7c t)) T.f_q17.F zBX rfl rfl rfl fun cdv A outer s H E hr=>?_;have hu:=yJ hr;unfold z7c;exact(zJ (wl (zK (E:=E0) G_q10 (fun _ _ z=>z.elim) (hr.mono (by decide)) (by rfl) T.f_q10.m T.f_q10.k T.f_q10.d zX (zA (zF (pv 0)) (zA (zF (pv 1)) zD))))
   (zN (za (DE.w (zK (E:=E0) G_q14 (fun _ _ z=>z.elim) (hr.mono (by decide)) (by rfl) T.f_q14.m T.f_q14.k T.f_q14.d zX (zA (zF (pv 0)) (zA (zF (pv 1)) (zA zM zD))))))))
noncomputable def z7p(t:Adr):Env'->Mx Out:=(sSeq (z27 (zQ z0e (zB (mVal 0) (zB (mVal 1) mNil))))
 (sRet (zQ (z7W t) (zB (mVal 0) (zB (mVal 1) (zB (mC (.int 1)) mNil))))))
noncomputable def z4w(t:Adr):List D->Mx D:=mFn 2 2 (z7p t)
theorem zBi(T:Txt K mg t):FnOk P w K mg base CX0 7 t.f_q18.a t.f_q18.d ["house","places"] (spD K EW0 (z4w t)):=by
 have G_q10:FnOk P w K mg base CX0 6 t.f_q10.a t.f_q10.d ["house","places"] (spD K EW0 z0e):=z6h T;have G_q15:FnOk P w K mg base CX0 4 t.f_q15.a t.f_q15.d ["house","places","few"] (spD K EW0 (z7W t)):=zAb T;refine zg (m:=(z7p t)) T.f_q18.F zAN rfl rfl rfl fun cdv A outer s H E hr=>?_;have hu:=yJ hr;unfold z7p;exact(zJ (wl (zK (E:=E0) G_q10 (fun _ _ z=>z.elim) (hr.mono (by decide)) (by rfl) T.f_q10.m T.f_q10.k T.f_q10.d zX (zA (zF (pv 0)) (zA (zF (pv 1)) zD))))
   (zN (za (DE.w (zK (E:=E0) G_q15 (fun _ _ z=>z.elim) (hr.mono (by decide)) (by rfl) T.f_q15.m T.f_q15.k T.f_q15.d zX (zA (zF (pv 0)) (zA (zF (pv 1)) (zA zM zD))))))))
noncomputable def z5G:Env'->Mx Out:=(sSeq (z27 (zQ z0e (zB (mVal 0) (zB (mVal 1) mNil))))
 (sRet (uC (zQ z44 (zB (mVal 2) (zB (mBin fIx (mVar 0) (mC (.int 0))) mNil))) (zQ z5P (zB (mVal 0) (zB (mVal 1) (zB (mVal 2) mNil)))))))
noncomputable def we:List D->Mx D:=mFn 3 3 z5G
theorem zBV(T:Txt K mg t):FnOk P w K mg base CX0 7 t.f_q21.a t.f_q21.d ["house","places","thing"] (spD K EW0 we):=by
 have G_q10:FnOk P w K mg base CX0 6 t.f_q10.a t.f_q10.d ["house","places"] (spD K EW0 z0e):=z6h T;have G_q16:FnOk P w K mg base CX0 2 t.f_q16.a t.f_q16.d ["house","places","standings"] (spD K EW0 z5P):=zBR T;have G_q20:FnOk P w K mg base CX0 5 t.f_q20.a t.f_q20.d ["thing","many"] (spD K EW0 z44):=zAw T;refine zg (m:=z5G) T.f_q21.F zAj rfl rfl rfl fun cdv A outer s H E hr=>?_;have hu:=yJ hr;unfold z5G;exact(zJ (wl (zK (E:=E0) G_q10 (fun _ _ z=>z.elim) (hr.mono (by decide)) (by rfl) T.f_q10.m T.f_q10.k T.f_q10.d zX (zA (zF (pv 0)) (zA (zF (pv 1)) zD))))
   (zN (za (DE.w (w8 (DE.w (zK (E:=E0) G_q20 (fun _ _ z=>z.elim) (hr.mono (by decide)) (by rfl) T.f_q20.m T.f_q20.k T.f_q20.d zX (zA (zF (pv 2)) (zA (yI hu (zH (pv 0)) (DE.w zM) (fun _ _=>rfl)) zD)))) (wb (zK (E:=E0) G_q16 (fun _ _ z=>z.elim) (hr.mono (by decide)) (by rfl) T.f_q16.m T.f_q16.k T.f_q16.d zX (zA (zF (pv 0)) (zA (zF (pv 1)) (zA (zF (pv 2)) zD))))))))))
noncomputable def z8C(t:Adr):Env'->Mx Out:=(sSeq (z27 (zQ F_q8 (zB (mVal 0) mNil)))
 (sSeq (sSet 1 (mP (yS (mIt (zQ z50 (zB (mBin fIx (mVar 0) (mC (.int 0))) mNil))) (zq (mBin (fEq false) (zV fLen (zB (mVar 2) mNil)) (mC (.int 2)))) (mVal 2))))
 (sRet (zV yg (zB (mP (yS (mIt (mVar 1)) (zq (mBin (fIs false) (zQ (uq t) (zB (mVal 0) (zB (mVal 2) mNil))) (mC .none))) (mVal 2))) mNil)))))
noncomputable def z30(t:Adr):List D->Mx D:=mFn 2 1 (z8C t)
theorem zBF(T:Txt K mg t):FnOk P w K mg base CX0 8 t.f_q23.a t.f_q23.d ["house"] (spD K EW0 (z30 t)):=by
 have G_q8:FnOk P w K mg base CX0 5 t.f_q8.a t.f_q8.d ["house"] (spD K EW0 F_q8):=zAO T;have G_q22:FnOk P w K mg base CX0 1 t.f_q22.a t.f_q22.d ["many"] (spD K EW0 z50):=zCD T;have G_q17:FnOk P w K mg base CX0 7 t.f_q17.a t.f_q17.d ["house","places"] (spD K EW0 (uq t)):=z8k T;refine zg (m:=(z8C t)) T.f_q23.F sc_q23 rfl rfl rfl fun cdv A outer s H E hr=>?_;have hu:=yJ hr;unfold z8C;exact(zJ (wl (zK (E:=E0) G_q8 (fun _ _ z=>z.elim) (hr.mono (by decide)) (by rfl) T.f_q8.m T.f_q8.k T.f_q8.d zX (zA (zF (pv 0)) zD)))
   (zJ (z5q (i:=1) (N:=["house","pairs"]) (sc:=(zC (top 31))) (N':=["house","pairs","standing"]) rfl rfl rfl (by decide +kernel) sc_q23.nd rfl rfl (fun _ _ _ z=>z) (xT (DE.w (zK (E:=E0) G_q22 (fun _ _ z=>z.elim) (hr.mono (by decide)) (by rfl) T.f_q22.m T.f_q22.k T.f_q22.d zX (zA (yI hu (zH (pv 0)) (DE.w zM) (fun _ _=>rfl)) zD)))) (fun _ _ _ _=>z0F (zj (xl hr.units) (DE.w (zU yU (by rfl) T.b_len Bt.b_len (zL (zH (pv 2)) zO))) (DE.w zM) (zd _))) (fun _ _ _ _=>(zF (pv 2))))
   (zN (za (DE.w (zU (z0S rfl hr.units) (by rfl) T.b_sorted Bt.b_sorted (zL (DE.w (DF.de (ye (N:=["house","pairs"]) (sc:=(zC (top 31))) (N':=["house","pairs","pair"]) rfl rfl rfl (by decide +kernel) (fun _ _ _ z=>z) (xT (zH (pv 1))) (fun _ _ _ _=>z0F (zj z3H (DE.w (zK (E:=E0) G_q17 (fun _ _ z=>z.elim) (hr.mono (by decide)) (by rfl) T.f_q17.m T.f_q17.k T.f_q17.d zX (zA (zF (pv 0)) (zA (zF (pv 2)) zD)))) (DE.w xV) (zd _))) (fun _ _ _ _=>(zF (pv 2)))))) zO)))))))
noncomputable def z41(t:Adr):Env'->Mx Out:=(sSeq (sSet 2 (zQ z67 (zB (mVal 0) (zB (mVal 1) (zB (mC (.int 6)) mNil)))))
 (sSeq (sSet 3 (zQ z4i (zB (mVal 0) (zB (mVal 1) (zB (mBin fIx (mVar 2) (mC (.int 0))) mNil)))))
 (sSeq (sOwn 4 (mSeq PyData.list mNil))
 (sSeq (sFor (mRng yl (zB (mBin fIx (mVar 2) (mC (.int 0))) mNil)) (τ1 5) (sExt 4 (mP (yS (mRng z45 (zB (mBin fAdd (mVar 5) (mC (.int 1))) (zB (mBin fIx (mVar 2) (mC (.int 0))) mNil))) mYes (mP (mSeq PyData.tuple (zB (mVal 5) (zB (mVal 13) mNil))))))))
 (sSeq (sIf (zq (mBin (fEq true) (zQ (z30 t) (zB (mVal 2) mNil)) (mP (yS (mIt (mVar 4)) (zq (mBin (fEq false) (zV z4N (zB (mP (yr (zQ z12 (zB (mVal 2) (zB (mVal 13) mNil))) mYes (zV fLen (zB (mVar 14) mNil)))) mNil)) (mC (.int 2)))) (mVal 13))))) (sRet (mC (.bool false))) sNil)
 (sSeq (sSet 6 (zQ (z4w t) (zB (mVal 2) (zB (mVal 3) mNil))))
 (sSeq (sSet 7 (mBin (fIs false) (zQ (uq t) (zB (mVal 2) (zB (mVal 3) mNil))) (mC .none)))
 (sSeq (sIf (zq (mBin (fEq true) (mBin (fIs true) (mVar 6) (mC .none)) (mVar 7))) (sRet (mC (.bool false))) sNil)
 (sSeq (sIf (zq (mBin (fEq true) (mBin (fIs false) (zQ (uq t) (zB (mVal 2) (zB (zV (fRg1 PyData.tuple) (zB (mBin fIx (mVar 2) (mC (.int 0))) mNil)) mNil))) (mC .none)) (mBin (fEq true) (zQ (z30 t) (zB (mVal 2) mNil)) (mP (mSeq PyData.list mNil))))) (sRet (mC (.bool false))) sNil)
 (sSeq (sIf (wv (mTru (mVar 7)) (mOrT (zq (mBin (fEq true) (mVar 6) (mUn xa (mVar 6)))) (xm (mTru (zQ z1d (zB (mVal 2) (zB (mVal 3) (zB (mVal 6) mNil)))))))) (sRet (mC (.bool false))) sNil)
 (sSeq (sIf (wv (mTru (mVar 7)) (zq (mBin (fEq true) (zQ we (zB (mVal 2) (zB (mVal 3) (zB (mVal 6) mNil)))) (mC (.bool true))))) (sRet (mC (.bool false))) sNil)
 (sSeq (sIf (mOrT (zq (mBin (fIs false) (mVar 6) (mC .none))) (zq (mBin (fEq false) (zQ yh (zB (mVal 0) (zB (mVal 1) (zB (mC (.int 3)) mNil)))) (mC (.int 0))))) (sSet 6 (mP (yr (zQ z12 (zB (mVal 2) (zB (mVal 3) mNil))) (wv (zq (mBin (fCmp fun i j=>decide (j<i)) (zQ yh (zB (mVal 0) (zB (mVal 1) (zB (mC (.int 6)) mNil)))) (mC (.int 0)))) (zq (mBin (fCmp fun i j=>decide (j<i)) (zV fLen (zB (mVar 13) mNil)) (mC (.int 1))))) (mVal 13)))) sNil)
 (sSeq (sFor (mRng yl (zB (zQ yh (zB (mVal 0) (zB (mVal 1) (zB (mC (.int 3)) mNil)))) mNil)) (τ1 8) (sSeq (sSet 9 (zQ yh (zB (mVal 0) (zB (mVal 1) (zB (mBin fAdd (zV fLen (zB (mVar 6) mNil)) (mC (.int 1))) mNil)))))
 (sSeq (sSet 10 (mP (mSeq PyData.list (zB (mP (mSeq PyData.list (zB (zQ uD (zB (mVal 0) (zB (mVal 1) (zB (mBin fAdd (mVar 4) (mP (mSeq PyData.list (zB (mP (mSeq PyData.tuple (zB (mC (.int 0)) (zB (mC (.int 0)) mNil)))) (zB (mP (mSeq PyData.tuple (zB (mC (.int 1)) (zB (mC (.int 0)) mNil)))) (zB (mVal 3) mNil)))))) mNil)))) mNil))) (zB (mP (mSeq PyData.list mNil)) (zB (mBin fMul (mSl (mVar 6) (wZ (mVar 9)) (wZ (mBin fAdd (mVar 9) (mC (.int 1))))) (mC (.int 2))) (zB (mP (mSeq PyData.list mNil)) mNil)))))))
 (sSeq (sSet 6 (mBin fAdd (mBin fAdd (mSl (mVar 6) xL (wZ (mVar 9))) (zQ uD (zB (mVal 0) (zB (mVal 1) (zB (mVal 10) mNil))))) (mSl (mVar 6) (wZ (mBin fAdd (mVar 9) (mC (.int 1)))) xL)))
 (sSet 6 (zQ uD (zB (mVal 0) (zB (mVal 1) (zB (mP (mSeq PyData.list (zB (mVal 6) (zB (mUn fRev (mVar 6)) mNil)))) mNil)))))))))
 (sSeq (sSet 11 (zQ we (zB (mVal 2) (zB (mVal 3) (zB (mVal 6) mNil)))))
 (sSeq (sIf (mOrT (zq (mBin (fEq true) (mVar 11) (zQ z1d (zB (mVal 2) (zB (mVal 3) (zB (mVal 6) mNil)))))) (mOrT (xm (mTru (mUn (fIsi "bool") (mVar 11)))) (wv (mTru (mVar 11)) (xm (mTru (mVar 7)))))) (sRet (mC (.bool false))) sNil)
 (sSeq (sSet 12 (mP (mSeq PyData.list (zB (mC .none) (zB (mP (mSeq PyData.tuple mNil)) (zB (mP (mSeq PyData.list mNil)) (zB (mP (mSeq PyData.list (zB (mC .none) mNil))) (zB (mP (mSeq PyData.list (zB (mP (mSeq PyData.tuple (zB (mC (.int 0)) mNil))) mNil))) (zB (mP (mSeq PyData.list (zB (mP (mSeq PyData.list (zB (mC (.int 0)) (zB (mC (.int 1)) mNil)))) mNil))) (zB (mP (mSeq PyData.list (zB (mP (mSeq PyData.tuple (zB (mC (.int 0)) (zB (mBin fIx (mVar 2) (mC (.int 0))) mNil)))) mNil))) (zB (mP (mSeq PyData.list (zB (mP (mSeq PyData.tuple (zB (mC (.bool true)) (zB (mC (.int 2)) mNil)))) mNil))) (zB (mP (mSeq PyData.list (zB (mP (mSeq PyData.tuple (zB (mC (.str "0")) (zB (mC (.int 1)) mNil)))) mNil))) (zB (mP (mSeq PyData.list (zB (mP (mSeq PyData.tuple (zB (mUn fNeg (mC (.int 1))) (zB (mC (.int 0)) mNil)))) mNil))) (zB (mC (.str "x")) mNil))))))))))))))
 (sRet (mBin (fEq false) (zQ we (zB (mVal 2) (zB (mVal 3) (zB (zQ uD (zB (mVal 0) (zB (mVal 1) (zB (mVal 12) mNil)))) mNil)))) (mC (.bool false))))))))))))))))))))
theorem zCG(T:Txt K mg t)(tells:z9u 13 (z41 t)):FnOk P w K mg base CX0 9 t.f_law.a t.f_law.d ["_law_script"] (z5M K):=by
 have G_q28:FnOk P w K mg base CX0 4 t.f_q28.a t.f_q28.d ["_law_script","_law_town","_law_most"] (spD K EW0 z67):=zC2 T;have G_q29:FnOk P w K mg base CX0 4 t.f_q29.a t.f_q29.d ["_law_script","_law_town","_law_many"] (spD K EW0 z4i):=zBj T;have G_q23:FnOk P w K mg base CX0 8 t.f_q23.a t.f_q23.d ["house"] (spD K EW0 (z30 t)):=zBF T;have G_q31:FnOk P w K mg base CX0 2 t.f_q31.a t.f_q31.d ["_law_house_here","_law_places"] (spD K EW0 z12):=zBI T;have G_q18:FnOk P w K mg base CX0 7 t.f_q18.a t.f_q18.d ["house","places"] (spD K EW0 (z4w t)):=zBi T;have G_q17:FnOk P w K mg base CX0 7 t.f_q17.a t.f_q17.d ["house","places"] (spD K EW0 (uq t)):=z8k T;have G_q32:FnOk P w K mg base CX0 2 t.f_q32.a t.f_q32.d ["_law_house_here","_law_places","_law_thing"] (spD K EW0 z1d):=zBL T;have G_q21:FnOk P w K mg base CX0 7 t.f_q21.a t.f_q21.d ["house","places","thing"] (spD K EW0 we):=zBV T;have G_q26:FnOk P w K mg base CX0 3 t.f_q26.a t.f_q26.d ["_law_script","_law_town","_law_many"] (spD K EW0 yh):=z3N T;have G_q27:FnOk P w K mg base CX0 4 t.f_q27.a t.f_q27.d ["_law_script","_law_town","_law_some_here"] (spD K EW0 uD):=zBc T;refine zAo (m:=z41 t) T.f_law.F sc_law rfl (by decide) rfl (fun cdv A outer s H E=>?_) (fun cdv A outer s H E hr=>?_) tells
 ·exact z29 (i:=1) sc_law.nd rfl (by first | exact Or.inl rfl | exact Or.inr rfl) (z6j pa_nil)
 ·have hu:=yJ hr;unfold z41;have nd:=sc_law.nd;walk_at "! h k,2 g,q28 a c,0 a c,1 a e d h k,3 g,q29 a c,0 a c,1 a C f,2 b e d h O,4 j d h P H s b C f,2 b e t l Q h o u b g,q23 a c,2 d b i R,42 S f,4 I J b T s b i U g,q31 a c,2 a c,13 d V D s f,14 t t b e c,13 l p b m q h k,6 g,q18 a c,2 a c,3 d h k,7 K b g,q17 a c,2 a c,3 d b v h o u b W f,6 b v f,7 l p b m q h o u b K b g,q17 a c,2 a X d b v b Y b g,q23 a c,2 d b i j d l p b m q h o r y w f,7 z r A u f,6 b Z f,6 E F w b g,q32 a c,2 a c,3 a c,6 d l p b m q h o r y w f,7 z u b g,q21 a c,2 a c,3 a c,6 d b m l p b m q h o r A aa f,6 b v E J b g,q26 a c,0 a c,1 a e d b e l ab,6,42 g,q31 a c,2 a c,3 d I r y L b g,q26 a c,0 a c,1 a e d b e z L b D s f,13 t b e c,13 q h ac H s b g,q26 a c,0 a c,1 a e d t h k,9 g,q26 a c,0 a c,1 a x b D s f,6 t b e d h k,10 i j a i j a g,q27 a c,0 a c,1 a x f,4 b i j a n a e a e d a n a e a e d a c,3 d d d a i j d a ad b G f,6 B f,9 B b x f,9 b e b e a i j d d h k,6 x b x b G f,6 M B f,9 b g,q27 a c,0 a c,1 a c,10 d b G f,6 B b x f,9 b e M l k,6 g,q27 a c,0 a c,1 a i j a c,6 a ae f,6 d d h k,11 g,q21 a c,2 a c,3 a c,6 d h o r A u f,11 b g,q32 a c,2 a c,3 a c,6 d A F w b af E r y w f,11 z F w f,7 l p b m q h k,12 i j a v a n d a i j d a i j a v d a i j a n a e d d a i j a i j a e a e d d a i j a n a e a C f,2 b e d d a i j a n a m a e d d a i j a n a N a e d d a i j a n a ag b e a e d d a N d l p b ah b g,q21 a c,2 a c,3 a g,q27 a c,0 a c,1 a c,12 d d b m"
end
end Gw
namespace Gw
open PySem L2
theorem z9D{ns:List Int}{k:Int}{n:Wd}{P:D->Wd->Prop}(hk:0<=k)(h:∀c:Int,P (.p (.int c)) n):Ok (z4G [.scr ns,.p (.int k)]) n P:=by
 unfold z4G;simp only[if_pos hk,y4];exact h _
theorem z8D{ns:List Int}{k m:Int}{n:Wd}{P:D->Wd->Prop}(hk:0<=k)(hk2:k<2 ^ 64)(hm:0<m)(h:∀r:Int,0<=r->r<m->P (.p (.int r)) n):Ok (z5Y [.scr ns,.p (.int k),.p (.int m)]) n P:=by
 unfold z5Y z7T;refine t_fn rfl ?_;walk_at "e";refine z9D hk fun c=>?_;walk_at "e";rw[z56 (by decide)];walk_at "e";rw[zAv (by decide)];walk_at "e";rw[uH (by decide)];walk_at "e";generalize hq:(c+7919*k+1)*48271 % 2147483647=q;have q0:0<=q/\q<2147483647:=by omega
 rw[z56 (by omega)];walk_at "e";rw[z56 (by decide)];walk_at "e";rw[uH (by decide)];walk_at "e";rw[uH hm];walk_at "e";exact h _ (Int.emod_nonneg _ (by omega)) (Int.emod_lt_of_pos _ hm)
theorem yW{ns:List Int}{m:Int}{n:Nat}{os:List Ob}{P:D->Wd->Prop}(hn:n<100000)(hm:0<m)(h:∀r:Int,0<=r->r<m->P (.p (.int r)) ⟨n+1,os⟩):Ok (yh [.scr ns,.town,.p (.int m)]) ⟨n,os⟩ P:=by
 unfold yh z7g;refine t_fn rfl ?_;walk_at "e";refine z93 rfl (by unfold lim;show n<_;omega) ?_;simp only[Wd.up];walk_at "e";refine zAK rfl ?_;walk_at "e";exact z8D (by omega) (by omega) hm h
noncomputable abbrev plD(pl:List Int):PyData:=.tuple (pl.map PyData.int)
structure PlOk(m:Int)(pl:List Int):Prop where
 ne:pl≠[]
 inr:∀p∈pl,0<=p/\p<m
 srt:pl.Pairwise (·<·)
 len:pl.length<=8
noncomputable def ze(m:Int)(ds:List (List Int)):PyData:=.tuple [.int m,.tuple (ds.map plD)]
structure DoorOk(m:Int)(d:List Int):Prop where
 len:(d.length:Int)=m
 inr:∀x∈d,0<=x/\x<m
structure HouseOk(m:Int)(ds:List (List Int)):Prop where
 lo:1<=m
 hi:m<=8
 some:1<=ds.length
 few:ds.length<=3
 doors:∀d∈ds,DoorOk m d
theorem zAM{i:Nat}{mk mv:Env'->Mx D}{ρ:Env'}{n:Wd}{P:Out->Wd->Prop}{l:List PyData}(hl:ownL ρ i=some l)(h:Ok (mv ρ) n fun v n1=>Ok (mk ρ) n1 fun k n2=>∃(j:Int) (x:PyData),v=.p x/\k=.p (.int j)/\0<=j/\j<l.length/\P (.nx (ρ.set i (some (Sl.own (.list (l.set j.toNat x)))))) n2):Ok (z7V i mk mv ρ) n P:=by
 unfold z7V;simp only[hl,zz,ya];refine h.imp fun v n1 h1=>h1.imp fun k n2 ⟨j,x,e1,e2,j0,j1,hp⟩=>?_;subst e1 e2;simp only[z9w,putL];rw[if_pos ⟨j0,j1⟩];simp only[Option.map_some,ya];exact hp
theorem z7L{ns:List Int}{hi:Int}{n:Nat}{os:List Ob}{P:D->Wd->Prop}(h2:1<=hi)(h8:hi<=8)(hn:n<4000)(h:∀m ds n',HouseOk m ds->m<=hi->n'<=n+42->P (.p (ze m ds)) ⟨n',os⟩):Ok (z67 [.scr ns,.town,.p (.int hi)]) ⟨n,os⟩ P:=by
 unfold z67 z8E;refine t_fn rfl ?_;walk_at "e";refine yW (by omega) (by omega) fun many m0 m1=>?_;walk_at "e";refine yW (by omega) (by decide) fun times t0 t1=>?_;walk_at "e";generalize hm:(1:Int)+many=m;have emod:∀x s:Int,0<=(x+s) % m/\(x+s) % m<m:=fun x s=>⟨Int.emod_nonneg _ (by omega),Int.emod_lt_of_pos _ (by omega)⟩;rw[y7 (by omega),y3 (1+times) (by omega)];walk_at "e";have hT:(1+times).toNat<=3/\1<=(1+times).toNat:=by omega
 refine w5 (fun k ρ w=>∃n',w=⟨n',os⟩/\k<=3/\n'<=n+2+12*k/\∃(ds:List (List Int)) (x5 x6 x7 x8:Option Sl),ρ=[some (Sl.val (.scr ns)),some (Sl.val .town),some (Sl.val (.p (.int hi))),some (Sl.val (.p (.int m))),some (Sl.own (.list (ds.map plD))),x5,x6,x7,x8]/\ds.length=k/\∀d∈ds,DoorOk m d) (fun k ρ w hk hI=>?_) (fun ρ w hI=>?_) ⟨_,rfl,by omega,by omega,[],none,none,none,none,rfl,rfl,fun d hd=>(nomatch hd)⟩
 ·obtain⟨n',rfl,hk3,hn',ds,x5,x6,x7,x8,rfl,hdl,hds⟩:=hI;have hk':k<(1+times).toNat:=by simpa[zR]using hk
  rw[List.getElem_map];refine⟨_,rfl,?_⟩;walk_at "e";refine yW (by omega) (by omega) fun step s0 s1=>?_;walk_at "e";refine yW (by omega) (by decide) fun kind q0 q1=>?_;walk_at "e";rw[y7 (by omega),y3 m (by omega)];walk_at "e";refine zw (J:=PyData.int) (J':=PyData.int) (f:=fun x=>(x+step) % m) (fun x hx=>?_) ?_
  ·walk_at "e";rw[uH (by omega)];walk_at "e";exact⟨by trivial,by trivial⟩
  ·try walk_at "e"
   have D1:DoorOk m ((upto m.toNat).map fun x=>(x+step) % m):=⟨by rw[List.length_map,zR];omega,fun x hx=>by
    obtain⟨y,_,rfl⟩:=List.mem_map.mp hx;exact emod y step⟩
   have app:∀(y5:Option Sl) (d:List Int) (n2:Nat),DoorOk m d->n2<=n+2+12*(k+1)->∃n',(⟨n2,os⟩:Wd)=⟨n',os⟩/\k+1<=3/\n'<=n+2+12*(k+1)/\∃(ds':List (List Int)) (x5 x6 x7 x8:Option Sl),[some (Sl.val (.scr ns)),some (Sl.val .town),some (Sl.val (.p (.int hi))),some (Sl.val (.p (.int m))),some (Sl.own (.list (ds.map plD++[plD d]))),y5,some (Sl.val (.p (.int step))),some (Sl.val (.p (.int kind))),some (Sl.own (.list (d.map PyData.int)))]=[some (Sl.val (.scr ns)),some (Sl.val .town),some (Sl.val (.p (.int hi))),some (Sl.val (.p (.int m))),some (Sl.own (.list (ds'.map plD))),x5,x6,x7,x8]/\ds'.length=k+1/\∀d∈ds',DoorOk m d:=fun y5 d n2 hd hn2=>⟨n2,rfl,by omega,hn2,ds++[d],_,_,_,_,by rw[List.map_append];rfl,by simp[hdl],fun e he=>by
    rcases List.mem_append.mp he with he | he
    ·exact hds e he
    ·rw[List.mem_singleton.mp he];exact hd⟩
   by_cases c0:kind=0
   ·rw[if_pos (decide_eq_true c0)];walk_at "e";rw[y7 (by omega),y3 m (by omega)];walk_at "e";refine z7N PyData.int (fun x=>0<=x/\x<m) 1 (fun d hd n2 hn2=>?_) (fun l n2 e hq hn2=>?_)
    ·walk_at "e";rw[List.length_map,zR]at hn2;exact yW (by omega) (by omega) fun r r0 r1=>⟨r,_,rfl,rfl,⟨r0,r1⟩,by omega⟩
    ·rw[List.length_map,zR]at e hn2
     try walk_at "e"
     rw[if_neg (by simp[c0])];walk_at "e";refine z1J rfl ?_;walk_at "e";exact⟨_,rfl,by rw[List.length_map];omega,app _ l n2 ⟨by omega,hq⟩ (by omega)⟩
   ·rw[if_neg (by simpa using c0)];walk_at "e";by_cases c1:kind=1
    ·rw[if_pos (decide_eq_true c1)];unfold z7k;walk_at "e";rw[y7 (by omega),y3 m (by omega)];walk_at "e";refine zAM rfl ?_;walk_at "e";refine yW (by omega) (by omega) fun v v0 v1=>?_;walk_at "e";refine yW (by omega) (by omega) fun j j0 j1=>?_;refine⟨j,.int v,rfl,rfl,j0,by rw[List.length_map,zR];omega,?_⟩
     try walk_at "e"
     refine z1J rfl ?_;walk_at "e";rw[show(List.map PyData.int (upto m.toNat)).set j.toNat (PyData.int v)=((upto m.toNat).set j.toNat v).map PyData.int from by rw[List.map_set]];exact⟨_,rfl,by rw[List.length_map];omega,app _ ((upto m.toNat).set j.toNat v) _ ⟨by rw[List.length_set,zR];omega,fun x hx=>by
      rcases List.mem_or_eq_of_mem_set hx with hx | rfl
      ·have:=mem_upto.mp hx;omega
      ·exact⟨v0,v1⟩⟩ (by omega)⟩
    ·rw[if_neg (by simpa using c1)];walk_at "e";refine z1J rfl ?_;walk_at "e";exact⟨_,rfl,by rw[List.length_map];omega,app _ _ _ D1 (by omega)⟩
 ·obtain⟨n',rfl,hk3,hn',ds,x5,x6,x7,x8,rfl,hdl,hds⟩:=hI;rw[List.length_map,zR]at hdl hn' hk3;walk_at "e";exact h m ds n' ⟨by omega,by omega,by omega,by omega,hds⟩ (by omega) (by omega)
theorem z6v(l:List Int):fEq false (.tuple (l.map PyData.int)) (.tuple [])=some (.bool l.isEmpty):=by
 unfold fEq;rw[if_pos ⟨by simp only[PyData.canLay0];exact xq l,rfl,by simp only[PyData.depth,PyData.depthAll];omega⟩];cases l with
 | nil=>rfl
 | cons x r=>simp[PyData.eqv,PyData.eqvAll]
theorem z9x{ns:List Int}{m:Int}{n:Nat}{os:List Ob}{P:D->Wd->Prop}(hm:1<=m)(hm8:m<=8)(hn:n<5000)(h:∀pl n',PlOk m pl->n'<=n+10->P (.p (plD pl)) ⟨n',os⟩):Ok (z4i [.scr ns,.town,.p (.int m)]) ⟨n,os⟩ P:=by
 unfold z4i z7r;refine t_fn rfl ?_;walk_at "e";rw[y7 (by omega),y3 m (by omega)];walk_at "e";refine wC (I:=fun k acc w=>∃n',w=⟨n',os⟩/\n'<=n+k/\∃l:List Int,acc=l.map PyData.int/\(∀x∈l,0<=x/\x<(k:Int))/\l.Pairwise (·<·)/\l.length<=k) (fun k acc w hk hI=>?_) (fun acc w hI=>?_) ⟨_,rfl,by omega,[],rfl,by simp,.nil,by simp⟩
 ·obtain⟨n',rfl,hn',l,rfl,hl,hs,hc⟩:=hI;have hk':k<m.toNat:=by simpa[zR]using hk
  have ek:(upto m.toNat)[k]'(by rw[zR];exact hk')=(k:Int):=by simp[upto]
  rw[List.getElem_map,ek];walk_at "e";refine yW (by omega) (by decide) fun r2 r20 r21=>?_;walk_at "e";refine⟨fun _=>?_,fun _=>⟨_,rfl,by omega,l,rfl,fun x hx=>by have:=hl x hx;omega,hs,by omega⟩⟩;walk_at "e";refine⟨_,rfl,_,rfl,by omega,l++[(k:Int)],by simp,fun x hx=>?_,?_,by simp;omega⟩
  ·rcases List.mem_append.mp hx with hx | hx
   ·have:=hl x hx;omega
   ·rw[List.mem_singleton.mp hx];omega
  ·rw[List.pairwise_append];exact⟨hs,by simp,fun a ha b hb=>by rw[List.mem_singleton.mp hb];exact(hl a ha).2⟩
 ·obtain⟨n',rfl,hn',l,rfl,hl,hs,hc⟩:=hI;rw[List.length_map,zR]at hn' hl hc
  try walk_at "e"
  rw[z6v];walk_at "e";cases l with
  | nil=>
   simp only[List.isEmpty_nil];walk_at "e";refine yW (by omega) (by omega) fun r3 r30 r31=>?_;walk_at "e";exact h [r3] _ ⟨by simp,fun p hp=>by rw[List.mem_singleton.mp hp];omega,by simp,by simp⟩ (by omega)
  | cons x l=>
   simp only[List.isEmpty_cons];walk_at "e";refine h (x::l) n' ⟨by simp,fun p hp=>by have:=hl p hp;omega,hs,by omega⟩ (by omega)
theorem wL{x a b:Int}{n:Wd}{P:D->Wd->Prop}(h:P (.p (.bool (decide (a<=x) && decide (x<=b)))) n):Ok (F_q0 [.p (.int x),.p (.int a),.p (.int b)]) n P:=by
 unfold F_q0 b_q0;refine t_fn rfl ?_;walk_at "e";by_cases c:a<=x
 ·simp only[c,decide_true,if_true,Bool.true_and]at h |-
  try walk_at "e"
  exact h
 ·simp only[c,decide_false,Bool.false_and,if_false,Bool.false_eq_true]at h |-
  try walk_at "e"
  exact h
theorem wT{l:List Int}{a b:Int}{n:Wd}{P:D->Wd->Prop}(hl:l.length<10000)(hr:∀x∈l,a<=x/\x<=b)(h:P (.p (.bool true)) n):Ok (F_q1 [.p (.tuple (l.map PyData.int)),.p (.int a),.p (.int b)]) n P:=by
 unfold F_q1 b_q1;refine t_fn rfl ?_;walk_at "e"
 try unfold yS
 walk_at "e";rw[z3z (by simpa using hl)];walk_at "e";refine zw (J':=PyData.bool) (f:=fun _=>true) (fun x hx=>?_) ?_
 ·walk_at "e";refine wL ⟨?_,rfl⟩
  have:=hr x hx;simp[this]
 ·try walk_at "e"
  simp only[yQ];rw[show((l.map fun _=>true).map PyData.bool)=(l.map fun _=>true).map (fun b=>PyData.bool (id b)) from rfl,zu];walk_at "e";rw[show(((l.map fun _=>true).map id).all id)=true by simp];exact h
theorem z2a{l:List PyData}{n:Wd}{P:D->Wd->Prop}(hl:l.length<10000)(hr:∀(i:Nat) x y,l[i]?=some x->l[i+1]?=some y->fLt x y=some (.bool true))(h:P (.p (.bool true)) n):Ok (F_q2 [.p (.tuple l)]) n P:=by
 unfold F_q2 b_q2;refine t_fn rfl ?_;walk_at "e"
 try unfold yS
 walk_at "e";rw[y7 (by omega)];walk_at "e";refine z3a (f:=fun _=>.bool true) (fun d hd=>?_) ?_
 ·obtain⟨k,hk,rfl⟩:=List.mem_iff_getElem.mp hd;rw[uT]at hk;rw[uL];walk_at "e";have e1:fIx (.tuple l) (.int (0+(k:Int)))=some (l[k]'(by omega)):=z02 (by omega) (by rw[show(0+(k:Int)).toNat=k by omega];exact List.getElem?_eq_getElem (by omega));have e2:fIx (.tuple l) (.int (0+(k:Int)+1))=some (l[k+1]'(by omega)):=z02 (by omega) (by rw[show(0+(k:Int)+1).toNat=k+1 by omega];exact List.getElem?_eq_getElem (by omega));rw[e1];walk_at "e";rw[e2];walk_at "e";rw[hr k _ _ (List.getElem?_eq_getElem (by omega)) (List.getElem?_eq_getElem (by omega))];walk_at "e";exact⟨by trivial,by trivial⟩
 ·try walk_at "e"
  simp only[yQ];rw[show(rngD 0 ((l.length:Int) - 1)).map (fun _=>PyData.bool true)=(rngD 0 ((l.length:Int) - 1)).map (fun x=>PyData.bool ((fun _=>true) x)) from rfl,zu];walk_at "e";rw[show(((rngD 0 ((l.length:Int) - 1)).map fun _=>true).all id)=true by simp];exact h
theorem z1y{m:Int}{pl:List Int}{n:Wd}{P:D->Wd->Prop}(hne:pl≠[])(hin:∀p∈pl,0<=p/\p<m)(hs:pl.Pairwise (·<·))(hl:pl.length<100)(h:P (.p (.bool true)) n):Ok (F_q3 [.p (plD pl),.p (.int m)]) n P:=by
 unfold F_q3 b_q3;refine t_fn rfl ?_;walk_at "e";refine wT (by omega) (fun x hx=>by have:=hin x hx;omega) ?_;walk_at "e";have h0:0<pl.length:=List.length_pos_iff.mpr hne;rw[show decide ((1:Int)<=((pl.map PyData.int).length:Int))=true by simp;omega];walk_at "e";refine z2a (by simp;omega) (fun i x y e1 e2=>?_) h;rw[List.getElem?_map]at e1 e2;obtain⟨a,ea,rfl⟩:=Option.map_eq_some_iff.mp e1;obtain⟨b,eb,rfl⟩:=Option.map_eq_some_iff.mp e2;rw[fLt_int,decide_eq_true (z6A hs ea eb)]
theorem z9g{m:Int}{ts:List PyData}{n:Wd}{P:D->Wd->Prop}(h1:1<=m)(h2:m<=8)(h:P (.p (.bool true)) n):Ok (F_q5 [.p (.tuple [.int m,.tuple ts])]) n P:=by
 unfold F_q5 b_q5;refine t_fn rfl ?_;walk_at "e"
 try simp
 walk_at "e";refine wL ?_;rw[show(decide ((1:Int)<=m) && decide (m<=z95))=true by unfold z95;simp;omega];walk_at "e";exact h
theorem z0t{m:Int}{pl:List Int}{n:Wd}{P:D->Wd->Prop}(L:PlOk m pl)(h:P (.p .none) n):Ok (F_q9 [.p (plD pl),.p (.int m)]) n P:=by
 have:=L.len;unfold F_q9 b_q9;refine t_fn rfl ?_;walk_at "e"
 skip
 walk_at "e";refine z1y L.ne L.inr L.srt (by omega) ?_;walk_at "e";exact h
theorem z4u{m:Int}{d:List Int}{n:Wd}{P:D->Wd->Prop}(hm:m<=8)(d1:DoorOk m d)(h:P (.p (.bool true)) n):Ok (F_q4 [.p (plD d),.p (.int m)]) n P:=by
 have:=d1.len;unfold F_q4 b_q4;refine t_fn rfl ?_;walk_at "e";refine wT (by omega) (fun x hx=>by have:=d1.inr x hx;omega) ?_;walk_at "e";rw[List.length_map,decide_eq_true d1.len];exact h
theorem zZ(m:Int)(ds:List (List Int)):ze m ds=.tuple [.int m,.tuple (ds.map plD)]:=rfl
theorem z4Q{m:Int}{ds:List (List Int)}{n:Wd}{P:D->Wd->Prop}(H:HouseOk m ds)(h:P (.p (.bool true)) n):Ok (F_q6 [.p (ze m ds)]) n P:=by
 have h1:=H.some;have h2:=H.few;unfold F_q6 b_q6;refine t_fn rfl ?_;rw[zZ];walk_at "e";refine z9g H.lo H.hi ?_;walk_at "e";rw[List.length_map,decide_eq_true (show(1:Int)<=(ds.length:Int) by omega)];walk_at "e";rw[decide_eq_true (show(ds.length:Int)<=z9h by unfold z9h;omega)];exact h
theorem z4E{m:Int}{ds:List (List Int)}{n:Wd}{P:D->Wd->Prop}(H:HouseOk m ds)(h:P (.p (.bool true)) n):Ok (F_q7 [.p (ze m ds)]) n P:=by
 have h2:=H.few;unfold F_q7 b_q7;refine t_fn rfl ?_;walk_at "e";refine z4Q H ?_;rw[zZ];walk_at "e";rw[z3z (by simp;omega)];walk_at "e";refine zw (J:=plD) (J':=PyData.bool) (f:=fun _=>true) (fun d hd=>?_) ?_
 ·walk_at "e";exact z4u H.hi (H.doors d hd) ⟨rfl,rfl⟩
 ·try walk_at "e"
  simp only[yQ];rw[show((ds.map fun _=>true).map PyData.bool)=(ds.map fun _=>true).map (fun b=>PyData.bool (id b)) from rfl,zu];walk_at "e";rw[show(((ds.map fun _=>true).map id).all id)=true by simp];exact h
theorem u6{m:Int}{ds:List (List Int)}{n:Wd}{P:D->Wd->Prop}(H:HouseOk m ds)(h:P (.p .none) n):Ok (F_q8 [.p (ze m ds)]) n P:=by
 unfold F_q8 b_q8;refine t_fn rfl ?_;walk_at "e"
 skip
 walk_at "e";refine z4E H ?_;walk_at "e";exact h
theorem wf{m:Int}{ds:List (List Int)}{pl:List Int}{n:Wd}{P:D->Wd->Prop}(H:HouseOk m ds)(L:PlOk m pl)(h:P (.p .none) n):Ok (z0e [.p (ze m ds),.p (plD pl)]) n P:=by
 unfold z0e z7D;refine t_fn rfl ?_;walk_at "e";refine u6 H ?_;rw[zZ]
 try walk_at "e"
 refine z0t L ?_;exact h
noncomputable def thr(d st:List Int):List Int:=(upto 8).filter fun x=>st.any fun y=>decide (d.getD y.toNat 0=x)
structure StOk(m:Int)(st:List Int):Prop where
 inr:∀p∈st,0<=p/\p<m
 srt:st.Pairwise (·<·)
 len:st.length<=8
theorem wq{m:Int}{d st:List Int}(hm:m<=8)(d1:DoorOk m d)(S:StOk m st)(x:Int):x∈thr d st↔∃y∈st,d.getD y.toNat 0=x:=by
 unfold thr;rw[List.mem_filter,List.any_eq_true];constructor
 ·rintro⟨_,y,hy,e⟩;exact⟨y,hy,by simpa using e⟩
 ·rintro⟨y,hy,e⟩;have h1:=S.inr y hy;have h2:=d1.inr _ (yq (l:=d) (i:=y.toNat) (d:=0) (by have:=d1.len;omega));exact⟨mem_upto.mpr (by omega),y,hy,by simpa using e⟩
theorem z1e{m:Int}{d st:List Int}(hm:m<=8)(d1:DoorOk m d)(S:StOk m st):StOk m (thr d st):=by
 refine⟨fun x hx=>?_,(uS 8).filter _,?_⟩
 ·obtain⟨y,hy,rfl⟩:=(wq hm d1 S x).mp hx;have h1:=S.inr y hy;exact d1.inr _ (yq (by have:=d1.len;omega))
 ·have:=List.length_filter_le (fun x=>st.any fun y=>decide (d.getD y.toNat 0=x)) (upto 8);rw[zR]at this;exact this
theorem z5n{m:Int}{d st r:List Int}(hm:m<=8)(d1:DoorOk m d)(S:StOk m st)(h:r.Pairwise (·<·))(hr:∀x,x∈r↔x∈st.map fun y=>d.getD y.toNat 0):r=thr d st:=
 uG h (z1e hm d1 S).srt fun x=>by rw[hr x,wq hm d1 S x,List.mem_map]
theorem zAh{m:Int}{d st:List Int}(hm:m<=8)(d1:DoorOk m d)(S:StOk m st):∀x∈st.map fun y=>d.getD y.toNat 0,0<=x/\x<8:=fun x hx=>by
 obtain⟨y,hy,rfl⟩:=List.mem_map.mp hx;have h1:=S.inr y hy
 have:=d1.inr _ (yq (l:=d) (i:=y.toNat) (d:=0) (by have:=d1.len;omega));omega
theorem z0a{m:Int}{d st:List Int}{n:Wd}{P:D->Wd->Prop}(hm:m<=8)(d1:DoorOk m d)(S:StOk m st)(h:P (.p (plD (thr d st))) n):Ok (z2f [.p (plD d),.p (plD st)]) n P:=by
 have hd:=d1.len;have hl:=S.len;unfold z2f z6w;refine t_fn rfl ?_;walk_at "e";rw[z3z (by simp;omega)];walk_at "e";refine zw (J':=PyData.int) (f:=fun y=>d.getD y.toNat 0) (fun y hy=>?_) ?_
 ·have:=S.inr y hy;walk_at "e";rw[z3l (by omega) (by omega)];walk_at "e";exact⟨by trivial,by trivial⟩
 ·try walk_at "e"
  rw[z7x];walk_at "e";obtain⟨r,e1,e2,e3⟩:=z57 (zAh hm d1 S);rw[e1];walk_at "e";rw[z5n hm d1 S e2 e3];exact h
theorem StOk.rise{m:Int}{st:List Int}(hm:m<=8)(S:StOk m st):st.Pairwise (·<·)/\∀x∈st,0<=x/\x<8:=⟨S.srt,fun x hx=>by have:=S.inr x hx;omega⟩
noncomputable def one(st:List Int):Bool:=decide (st.length=1)
theorem z7w{mk:Env'->Mx D}{mc:Env'->Mx Bool}{me:Env'->Mx D}{ρ:Env'}{n:Wd}{P:PyData->Wd->Prop}{kvs:List (PyData×PyData)}(hk:Ok (mk ρ) n fun d n'=>d=.p (.dict kvs)/\n'=n)(hl:kvs.length<10000)(h:Ok (zc mc me ρ (kvs.map (·.1)) []) n fun l n'=>P (.list l) n'):Ok (yr mk mc me ρ) n P:=by
 unfold yr;rw[zz];refine hk.imp fun d n' ⟨e1,e2⟩=>?_;subst e1 e2;rw[zz,z2w];simp only[z7h];rw[if_pos (by unfold lim;omega),ya,zz];obtain⟨l,n2,e,p⟩:=h;refine⟨l,n2,?_,(y4 _ _).mpr p⟩;unfold Mx.sure;rw[e]
noncomputable def fH(ds:List (List Int)):Int->List Int->Option (List Int):=fun d st=>some (thr (ds.getD d.toNat []) st)
theorem z4h{i j:Nat}{ρ:Env'}{n:Wd}{P:Out->Wd->Prop}{x:PyData}{l:List PyData}(hl:ownL ρ j=some (x::l))(hij:i≠j)(h:P (.nx ((ρ.set j (some (Sl.own (.list l)))).set i (some (Sl.val (.p x))))) n):Ok (z3L i j (mC (.int 0)) ρ) n P:=by
 unfold z3L mC;simp only[hl,zz,ya,y4,z2w,Option.bind_some];rw[if_pos ⟨by decide,by decide,hij⟩];have e:seqIndex? 0 (x::l).length=some 0:=by simp[seqIndex?]
 rw[e];simp only[Option.bind_some,List.getElem?_cons_zero,Option.map_some,ya,List.eraseIdx_zero,List.tail_cons];exact h
theorem zCq(l:List PyData):fIs true (.tuple l) .none=some (.bool true):=rfl
theorem uX{a:List Int}{c:Int}(h:a.length<1000):fAdd (tupI a) (.tuple [.int c])=some (tupI (a++[c])):=by
 simp only[fAdd];rw[if_pos (by unfold lim;simp;omega)];simp
theorem z2t{m:Int}{ds:List (List Int)}{pl:List Int}{l:List (List Int×List Int)}{k c:Nat}(hm:m<=8)(B:Bfs (fH ds) ds.length pl l k c)(hS:∀q∈l,StOk m q.1):l.length<=256:=by
 have:=zBC B.nd fun st hst=>by
  obtain⟨q,h,rfl⟩:=List.mem_map.mp hst;exact(hS q h).rise hm
 simpa using this
theorem uY{t:Adr}{m:Int}{ds:List (List Int)}{pl:List Int}{n:Wd}{P:D->Wd->Prop}(H:HouseOk m ds)(S:StOk m pl)
  (h:∀l,Bfs (fH ds) ds.length pl l l.length 0->BfsL (fH ds) ds.length l l.length 0->(∀q∈l,StOk m q.1)->P (.p (.dict (gP l))) n):Ok (z6c t [.p (plD pl),.p (.tuple (ds.map plD)),.fn t.f_q11.a]) n P:=by
 have hm:=H.hi;have hf:=H.few;unfold z6c z81;refine t_fn rfl ?_;walk_at "e";unfold mD1;walk_at "e";rw[if_pos (show yE [] (plD pl)=true from uo [] pl)];walk_at "e";unfold z0O;refine z3R (fun μ ρ n'=>n'=n/\∃(l:List (List Int×List Int)) (k:Nat) (x5 x6 x7:Option Sl),ρ=[some (Sl.val (.p (plD pl))),some (Sl.val (.p (.tuple (ds.map plD)))),some (Sl.val (.fn t.f_q11.a)),some (Sl.own (.dict (gP l))),some (Sl.own (.list ((l.drop k).map fun q=>plD q.1))),x5,x6,x7]/\Bfs (fH ds) ds.length pl l k 0/\BfsL (fH ds) ds.length l k 0/\(∀q∈l,StOk m q.1)/\k<=l.length/\μ=256 - k) (fun μ ρ n' hI=>?_) (μ:=256) (by decide) ⟨rfl,[(pl,[])],0,none,none,none,rfl,Bfs.init,BfsL.init,fun q hq=>by rw[List.mem_singleton.mp hq];exact S,by simp,rfl⟩;obtain⟨rfl,l,k,x5,x6,x7,rfl,B,BL,hS,hkl,rfl⟩:=hI;have hl:=z2t hm B hS;walk_at "e";cases hw:l.drop k with
 | nil=>
  simp only[List.map_nil];refine⟨fun z=>by simp at z,fun _=>?_⟩
  try walk_at "e"
  have e:k=l.length:=by
   have:=congrArg List.length hw;rw[List.length_drop,List.length_nil]at this;omega
  subst e;exact h l B BL hS
 | cons q w=>
  simp only[List.map_cons];have hk:k<l.length:=by
   have:=congrArg List.length hw;rw[List.length_drop,List.length_cons]at this;omega
  have hq:l[k]?=some q:=by
   rw[List.drop_eq_getElem_cons hk]at hw;rw[List.getElem?_eq_getElem hk,(List.cons.inj hw).1]
  have hw2:l.drop (k+1)=w:=by
   rw[List.drop_eq_getElem_cons hk]at hw;exact(List.cons.inj hw).2
  refine⟨fun _=>⟨256 - (k+1),by omega,?_⟩,fun z=>by simp at z⟩
  try walk_at "e"
  refine z4h rfl (by decide) ?_
  try unfold sFor
  walk_at "e";rw[y7 (by simp;omega),List.length_map,y3 _ (by omega),<-hw2];walk_at "e";refine w5 (fun c ρ n2=>n2=n'/\c<=ds.length/\∃(l':List (List Int×List Int)) (x6 x7:Option Sl),ρ=[some (Sl.val (.p (plD pl))),some (Sl.val (.p (.tuple (ds.map plD)))),some (Sl.val (.fn t.f_q11.a)),some (Sl.own (.dict (gP l'))),some (Sl.own (.list ((l'.drop (k+1)).map fun q=>plD q.1))),some (Sl.val (.p (plD q.1))),x6,x7]/\Bfs (fH ds) ds.length pl l' k c/\BfsL (fH ds) ds.length l' k c/\l'[k]?=some q/\∀q∈l',StOk m q.1) (fun c ρ n2 hc hI=>?_) (fun ρ n2 hI=>?_) ⟨by trivial,Nat.zero_le _,l,x6,x7,rfl,B,BL,hq,hS⟩
  ·obtain⟨rfl,hcl,l',x6',x7',rfl,B',BL',hq',hS'⟩:=hI;have hc':c<ds.length:=by simpa[zR]using hc
   have ek:(upto (ds.length:Int).toNat)[c]'(by rw[zR];omega)=(c:Int):=by simp[upto]
   have hl':=z2t hm B' hS';have hqm:q∈l':=List.mem_of_getElem? hq';have hkl':k<l'.length:=(List.getElem?_eq_some_iff.mp hq').1;have d1:=H.doors _ (yq (l:=ds) (i:=c) (d:=[]) hc');have hne:l'≠[]:=fun z=>by rw[z]at hqm;cases hqm
   rw[List.getElem_map,ek];refine⟨_,rfl,?_⟩;walk_at "e";unfold z3W;rw[if_pos (by simp[isFn])];walk_at "e";rw[z5X (J:=plD) (d:=[]) (by omega) (by omega)];walk_at "e";rw[show(c:Int).toNat=c by omega];refine z0a hm d1 (hS' q hqm) ?_;walk_at "e";rw[zCq];walk_at "e";rw[show fIn true (.tuple ((thr (ds.getD c []) q.1).map PyData.int)) (.dict (gP l'))=_ from z33 hne true (thr (ds.getD c []) q.1)];walk_at "e";have efH:fH ds (c:Int) q.1=some (thr (ds.getD c []) q.1):=by unfold fH;rw[show(c:Int).toNat=c by omega]
   cases hany:l'.any fun p=>decide (p.1=thr (ds.getD c []) q.1)with
   | true=>
    simp only[Bool.not_true];walk_at "e";have hsk:∀s',fH ds (c:Int) q.1=some s'->∃p∈l',p.1=s':=fun s' hs=>by
     rw[efH]at hs;cases hs;obtain⟨p,hp,e⟩:=List.any_eq_true.mp hany;exact⟨p,hp,of_decide_eq_true e⟩
    exact⟨by trivial,hc',l',_,_,rfl,B'.skip hq' hsk,BL'.skip hq' hsk,hq',hS'⟩
   | false=>
    have hn:∀p∈l',p.1≠thr (ds.getD c []) q.1:=fun p hp=>by
     have:=List.any_eq_false.mp hany p hp;simpa using this
    have hdp:=B'.deep k q hq';simp only[Bool.not_false];walk_at "e";unfold z0Q;walk_at "e";rw[show fIx (.dict (gP l')) (plD q.1)=some (tupI q.2) from z1F B'.nd hqm];walk_at "e";rw[uX (by omega)];walk_at "e";rw[show ownD _ 3=some (gP l') from rfl];walk_at "e";rw[show putD (gP l') (plD (thr (ds.getD c []) q.1)) (tupI (q.2++[(c:Int)]))=_ from zA1 (by omega) hn (q.2++[(c:Int)])];walk_at "e";refine z1J rfl ?_;walk_at "e";refine⟨_,rfl,by simp;omega,by trivial,hc',l'++[(thr (ds.getD c []) q.1,q.2++[(c:Int)])],some (Sl.val (.p (.int c))),some (Sl.val (.p (plD (thr (ds.getD c []) q.1)))),?_,B'.add hq' hc' efH hn,BL'.add hq' efH,?_,fun p hp=>?_⟩
    ·rw[List.drop_append_of_le_length (by omega),List.map_append];rfl
    ·rw[List.getElem?_append_left hkl'];exact hq'
    ·rcases List.mem_append.mp hp with hp | hp
     ·exact hS' p hp
     ·rw[List.mem_singleton.mp hp];exact z1e hm d1 (hS' q hqm)
  ·obtain⟨rfl,hcl,l',x6',x7',rfl,B',BL',hq',hS'⟩:=hI;rw[List.length_map,zR,show(ds.length:Int).toNat=ds.length by omega]at B' BL';have hkl':k<l'.length:=(List.getElem?_eq_some_iff.mp hq').1;refine⟨256 - (k+1),Nat.le_refl _,by trivial,l',k+1,_,_,_,rfl,B'.next,BL'.next,hS',hkl',rfl⟩
noncomputable def gH(ds:List (List Int)):Int->List Int->List Int:=fun d st=>thr (ds.getD d.toNat []) st
theorem wN(ds:List (List Int))(pl:List Int):∀r:List Int,wY (fH ds) pl r=some (zv (gH ds) pl r):=by
 intro r;have gen:∀(n:Nat) (r:List Int),r.length=n->wY (fH ds) pl r=some (zv (gH ds) pl r):=by
  intro n
  induction n with
  | zero=>
   intro r hr
   have:r=[]:=List.length_eq_zero_iff.mp hr;subst this;rfl
  | succ n ih=>
   intro r hr;have hne:r≠[]:=fun z=>by rw[z]at hr;simp at hr
   obtain⟨r0,d,e⟩:∃r0 d,r=r0++[d]:=⟨r.dropLast,r.getLast hne,(List.dropLast_concat_getLast hne).symm⟩;subst e;rw[xv,ih r0 (by simpa using hr),xJ];rfl
 exact gen r.length r rfl
theorem ug{m:Int}{ds:List (List Int)}{pl:List Int}(H:HouseOk m ds)(S:StOk m pl):∀{r:List Int},DoorsIn ds.length r->StOk m (zv (gH ds) pl r):=by
 intro r;have gen:∀(n:Nat) (r:List Int),r.length=n->DoorsIn ds.length r->StOk m (zv (gH ds) pl r):=by
  intro n
  induction n with
  | zero=>
   intro r hr _
   have:r=[]:=List.length_eq_zero_iff.mp hr;subst this;exact S
  | succ n ih=>
   intro r hr hd;have hne:r≠[]:=fun z=>by rw[z]at hr;simp at hr
   obtain⟨r0,d,e⟩:∃r0 d,r=r0++[d]:=⟨r.dropLast,r.getLast hne,(List.dropLast_concat_getLast hne).symm⟩;subst e;rw[xJ];have hdd:=hd d (List.mem_append_right _ (List.mem_singleton.mpr rfl));exact z1e H.hi (H.doors _ (yq (by omega))) (ih r0 (by simpa using hr) fun x hx=>hd x (List.mem_append_left _ hx))
 exact gen r.length r rfl
theorem z8n{m:Int}{d st:List Int}(hm:m<=8)(d1:DoorOk m d)(S:StOk m st)(h:st≠[]):thr d st≠[]:=by
 obtain⟨y,r,rfl⟩:=List.exists_cons_of_ne_nil h
 have:d.getD y.toNat 0∈thr d (y::r):=(wq hm d1 S _).mpr ⟨y,List.mem_cons_self,rfl⟩;exact List.ne_nil_of_mem this
theorem z2P{m:Int}{ds:List (List Int)}{pl:List Int}(H:HouseOk m ds)(S:StOk m pl)(hp:pl≠[]):∀{r:List Int},DoorsIn ds.length r->zv (gH ds) pl r≠[]:=by
 intro r;have gen:∀(n:Nat) (r:List Int),r.length=n->DoorsIn ds.length r->zv (gH ds) pl r≠[]:=by
  intro n
  induction n with
  | zero=>
   intro r hr _
   have:r=[]:=List.length_eq_zero_iff.mp hr;subst this;exact hp
  | succ n ih=>
   intro r hr hd;have hne:r≠[]:=fun z=>by rw[z]at hr;simp at hr
   obtain⟨r0,d,e⟩:∃r0 d,r=r0++[d]:=⟨r.dropLast,r.getLast hne,(List.dropLast_concat_getLast hne).symm⟩;subst e;rw[xJ];have hdd:=hd d (List.mem_append_right _ (List.mem_singleton.mpr rfl));exact z8n H.hi (H.doors _ (yq (by omega))) (ug H S fun x hx=>hd x (List.mem_append_left _ hx)) (ih r0 (by simpa using hr) fun x hx=>hd x (List.mem_append_left _ hx))
 exact gen r.length r rfl
def z9o(ds:List (List Int))(row:List Int):Prop:=∀d∈row,0<=d/\d<(ds.length:Int)
structure Best(ds:List (List Int))(pl:List Int)(o:Option (List Int)):Prop where
 no:o=none->∀row,z9o ds row->∀st,wY (fH ds) pl row=some st->st.length≠1
 yes:∀r,o=some r->z9o ds r/\(∃st,wY (fH ds) pl r=some st/\st.length=1)/\∀row,z9o ds row->∀st,wY (fH ds) pl row=some st->st.length=1->wLe w0 r row
noncomputable def rowO:Option (List Int)->PyData
 | none=>.none
 | some r=>tupI r
theorem z2R{t:Adr}{m:Int}{ds:List (List Int)}{pl:List Int}{n:Wd}{P:D->Wd->Prop}(H:HouseOk m ds)(L:PlOk m pl)
  (h:∀o,Best ds pl o->P (.p (rowO o)) n):Ok (z6C t [.p (ze m ds),.p (plD pl),.p (.int 1)]) n P:=by
 have S:StOk m pl:=⟨L.inr,L.srt,L.len⟩;unfold z6C z7t;refine t_fn rfl ?_;walk_at "e";unfold z1j z52;refine t_fn rfl ?_;rw[zZ];unfold mFnV;walk_at "e";refine uY H S fun l B BL hS=>?_;have hl:=z2t H.hi B hS
 try walk_at "e"
 refine z7w (kvs:=gP l) ?_ (by simp[gP];omega) ?_
 ·try walk_at "e"
  first | exact⟨rfl,by trivial⟩ | exact⟨by trivial,by trivial⟩ | trivial
 ·rw[show(gP l).map (·.1)=(l.map (·.1)).map tupI by simp[gP,Function.comp_def]];refine z1w (J:=tupI) (f:=one) (fun st hst=>?_) (fun st hst _=>?_) ?_
  ·walk_at "e";rw[List.length_map];refine⟨?_,by trivial⟩;unfold one;rw[decide_eq_decide];omega
  ·walk_at "e";exact⟨by trivial,by trivial⟩
  ·try walk_at "e"
   cases hfl:(l.map (·.1)).filter one with
   | nil=>
    simp only[List.map_nil];simp only[List.isEmpty_nil,Bool.not_true,Bool.false_eq_true,if_false]
    try walk_at "e"
    refine h none ⟨fun _ row hr st hst e1=>?_,fun r z=>(nomatch z)⟩;obtain⟨p,hp,e2,_⟩:=B.all row hr st hst
    have:st∈(l.map (·.1)).filter one:=List.mem_filter.mpr ⟨List.mem_map.mpr ⟨p,hp,e2⟩,decide_eq_true e1⟩;rw[hfl]at this;cases this
   | cons st0 rest=>
    simp only[List.map_cons];simp only[List.isEmpty_cons,Bool.not_false,if_true]
    try walk_at "e"
    rw[show fIx (.list (tupI st0::rest.map tupI)) (.int 0)=some (tupI st0) from z9z _ _];walk_at "e";have hm0:st0∈(l.map (·.1)).filter one:=by rw[hfl];exact List.mem_cons_self
    obtain⟨hm1,ho⟩:=List.mem_filter.mp hm0;obtain⟨q,hq,e⟩:=List.mem_map.mp hm1;subst e;rw[z1F B.nd hq];walk_at "e";refine h (some q.2) ⟨fun z=>(nomatch z),fun r z=>?_⟩;cases z;refine⟨B.doors q hq,⟨q.1,B.sound q hq,of_decide_eq_true ho⟩,fun row hr st hst e1=>?_⟩;obtain⟨p,hp,e2,e3⟩:=BL.all B row hr st hst;have hpone:one p.1=true:=by unfold one;rw[e2];exact decide_eq_true e1
    have hff:l.filter (fun q=>one q.1)=q::(l.filter (fun q=>one q.1)).tail:=by
     rw[List.filter_map]at hfl;cases hc:l.filter (one∘fun x=>x.1)with
     | nil=>rw[hc]at hfl;cases hfl
     | cons a r=>
      rw[hc,List.map_cons]at hfl;have ea:a.1=q.1:=(List.cons.inj hfl).1;have hal:a∈l:=(List.mem_filter.mp (by rw[hc];exact List.mem_cons_self:a∈l.filter (one∘fun x=>x.1))).1
      have:a=q:=by
       have h1:=z0z B.nd hal;rw[ea,z0z B.nd hq]at h1;cases h1;rfl
      subst this;show l.filter (one∘fun x=>x.1)=_;rw[show(fun q:List Int×List Int=>one q.1)=one∘fun x=>x.1 from rfl,hc];rfl
    exact(z5Z BL.ris one q _ hff p hp hpone).trans e3
theorem z1P{t:Adr}{m:Int}{ds:List (List Int)}{pl:List Int}{n:Wd}{P:D->Wd->Prop}(H:HouseOk m ds)(L:PlOk m pl)
  (h:∀o,Best ds pl o->P (.p (rowO o)) n):Ok (uq t [.p (ze m ds),.p (plD pl)]) n P:=by
 unfold uq z7c;refine t_fn rfl ?_;walk_at "e";refine wf H L ?_;walk_at "e"
 skip
 walk_at "e";refine z2R H L fun o B=>?_;exact h o B
structure Least(ds:List (List Int))(pl s r:List Int):Prop where
 doors:DoorsIn ds.length r
 lead:zv (gH ds) pl r=s
 le:∀r',DoorsIn ds.length r'->zv (gH ds) pl r'=s->wLe w0 r r'
theorem z3B{T:List (List Int×List Int)}(nd:(T.map (·.1)).Nodup){p q:List Int×List Int}(hp:p∈T)(hq:q∈T)(e:p.1=q.1):p=q:=by
 have h1:=z0z nd hp;rw[e,z0z nd hq]at h1;cases h1;rfl
structure Full(m:Int)(ds:List (List Int))(pl:List Int)(T:List (List Int×List Int)):Prop where
 nd:(T.map (·.1)).Nodup
 st:∀q∈T,StOk m q.1/\q.1≠[]
 least:∀q∈T,Least ds pl q.1 q.2
 all:∀r,DoorsIn ds.length r->∃q∈T,q.1=zv (gH ds) pl r
theorem Full.few{m:Int}{ds:List (List Int)}{pl:List Int}{T:List (List Int×List Int)}(h6:m<=6)(h:Full m ds pl T):T.length<=63:=by
 have:=zAk h.nd fun st hst=>by
  obtain⟨q,hq,rfl⟩:=List.mem_map.mp hst;obtain⟨s1,s2⟩:=h.st q hq;exact⟨s1.srt,fun y hy=>by have:=s1.inr y hy;omega,s2⟩
 simpa using this
def Rows(m:Int)(ds:List (List Int))(pl:List Int)(l:List (List Int×List Int)):Prop:=Full m ds pl l/\l.Pairwise fun a b=>sLt a.2 b.2
theorem z2l{t:Adr}{m:Int}{ds:List (List Int)}{pl:List Int}{n:Wd}{P:D->Wd->Prop}(H:HouseOk m ds)(L:PlOk m pl)
  (h:∀l,Rows m ds pl l->P (.p (.dict (gP l))) n):Ok (z1j t [.p (ze m ds),.p (plD pl)]) n P:=by
 have S:StOk m pl:=⟨L.inr,L.srt,L.len⟩;unfold z1j z52;refine t_fn rfl ?_;rw[zZ];unfold mFnV;walk_at "e";refine uY H S fun l B BL hS=>?_;refine h l ⟨⟨B.nd,fun q hq=>?_,fun q hq=>?_,fun r hr=>?_⟩,BL.ris⟩
 ·have e:=B.sound q hq;rw[wN]at e;rw[<-Option.some.inj e];exact⟨ug H S (B.doors q hq),z2P H S L.ne (B.doors q hq)⟩
 ·have e:=B.sound q hq;rw[wN]at e;have e:zv (gH ds) pl q.2=q.1:=Option.some.inj e;refine⟨B.doors q hq,e,fun r' h1 h2=>?_⟩;obtain⟨p,hp,e1,e2⟩:=BL.all B r' h1 _ (wN ds pl r')
  have:p=q:=z3B B.nd hp hq (by rw[e1,h2]);rw[<-this];exact e2
 ·obtain⟨p,hp,e1,_⟩:=BL.all B r hr _ (wN ds pl r);exact⟨p,hp,e1⟩
theorem zA7(l:List (List Int×List Int)):(gP l).map (·.1)=(l.map (·.1)).map tupI:=by simp[gP,Function.comp_def]
theorem z2F{m:Int}{ds:List (List Int)}{st:List Int}{c:Int}{n:Wd}{P:D->Wd->Prop}(H:HouseOk m ds)(S:StOk m st)(h0:0<=c)(hc:c<ds.length)(h:P (.p (plD (gH ds c st))) n):Ok (z2h [.p (ze m ds),.p (plD st),.p (.int c)]) n P:=by
 have hm:=H.hi;have d1:=H.doors _ (yq (l:=ds) (i:=c.toNat) (d:=[]) (by omega));have hd:=d1.len;have hl:=S.len;unfold z2h z8G;refine t_fn rfl ?_;rw[zZ];walk_at "e";rw[z3z (by simp;omega)];walk_at "e";refine zw (J':=PyData.int) (f:=fun y=>(ds.getD c.toNat []).getD y.toNat 0) (fun y hy=>?_) ?_
 ·have:=S.inr y hy;walk_at "e";rw[z5X (J:=plD) (d:=[]) (by omega) (by omega)];walk_at "e";rw[z3l (by omega) (by omega)];walk_at "e";exact⟨by trivial,by trivial⟩
 ·try walk_at "e"
  obtain⟨r,e1,e2,e3⟩:=z57 (zAh hm d1 S);rw[e1];walk_at "e";rw[z5n hm d1 S e2 e3];exact h
theorem z7y(l:List (List Int)):fEq true (.list (l.map tupI)) (.list [])=some (.bool (!l.isEmpty)):=by
 unfold fEq;rw[if_pos ⟨by simp only[PyData.canLay0];exact z3X (J:=tupI) (fun r=>by simp only[PyData.canLay0];exact xq r) l,rfl,by simp only[PyData.depth,PyData.depthAll];omega⟩];cases l with
 | nil=>rfl
 | cons x r=>simp[PyData.eqv,PyData.eqvAll]
theorem z80(a b:List Int):fLt (tupI a) (tupI b)=some (.bool (HT.lexLt a b)):=by
 show(match zn (a.map PyData.int),zn (b.map PyData.int)with
  | some ns,some ms=>some (PyData.bool (HT.lexLt ns ms))
  | _,_=>none)=_
 rw[zy,zy]
theorem z7M{T:List (List Int×List Int)}{s r:List Int}:(putT T s r).length=if (T.any fun q=>decide (q.1=s))=true then T.length else T.length+1:=by
 unfold putT;split
 ·rw[List.length_map]
 ·rw[List.length_append];rfl
theorem z3T{T:List (List Int×List Int)}{s:List Int}(h:(T.any fun p=>decide (p.1=s))=true):∃q∈T,q.1=s:=by
 obtain⟨q,hq,e⟩:=List.any_eq_true.mp h;exact⟨q,hq,of_decide_eq_true e⟩
theorem z68{T:List (List Int×List Int)}{s:List Int}(h:(T.any fun p=>decide (p.1=s))=false):∀q∈T,q.1≠s:=fun q hq=>by
 have:=List.any_eq_false.mp h q hq;simpa using this
structure TOk(m:Int)(ds:List (List Int))(pl:List Int)(T:List (List Int×List Int)):Prop where
 tab:Tab (gH ds) ds.length pl T
 st:∀q∈T,StOk m q.1/\q.1≠[]
theorem TOk.few{m:Int}{ds:List (List Int)}{pl:List Int}{T:List (List Int×List Int)}(h6:m<=6)(B:TOk m ds pl T):T.length<=63:=by
 have:=zAk B.tab.nd fun st hst=>by
  obtain⟨q,hq,rfl⟩:=List.mem_map.mp hst;obtain⟨s1,s2⟩:=B.st q hq;exact⟨s1.srt,fun y hy=>by have:=s1.inr y hy;omega,s2⟩
 simpa using this
theorem TOk.put{m:Int}{ds:List (List Int)}{pl r st:List Int}{T:List (List Int×List Int)}(B:TOk m ds pl T)(h1:zv (gH ds) pl r=st)(h2:DoorsIn ds.length r)(h3:StOk m st/\st≠[]):TOk m ds pl (putT T st r):=
 ⟨B.tab.put h1 h2,fun q hq=>by
  rcases(yG q).mp hq with rfl | ⟨h,_⟩
  ·exact h3
  ·exact B.st q h⟩
structure Lev(m:Int)(ds:List (List Int))(pl:List Int)(N:Nat)(T0 T:List (List Int×List Int))(LL:List (List Int)):Prop where
 ok:TOk m ds pl T
 keep:∀q∈T0,q∈T
 old:∀q∈T,q.2.length<=N->q∈T0
 len:∀q∈T,q.2.length<=N+1
 l1:∀s∈LL,∃q∈T,q.1=s/\q.2.length=N+1
 l2:∀q∈T,q.2.length=N+1->q.1∈LL
 cnt:T.length=T0.length+LL.length
theorem Lev.put{m:Int}{ds:List (List Int)}{pl:List Int}{N:Nat}{T0 T:List (List Int×List Int)}{LL:List (List Int)}{s r:List Int}(V:Lev m ds pl N T0 T LL)(hT0:∀q∈T0,q.2.length<=N)(h1:zv (gH ds) pl r=s)(h2:DoorsIn ds.length r)(h3:StOk m s/\s≠[])(hr:r.length=N+1)
  (hq:∀q∈T,q.1=s->q.2.length=N+1):Lev m ds pl N T0 (putT T s r) (if (T.any fun q=>decide (q.1=s))=true then LL else LL++[s]):=by
 have ll:∀x,x∈LL->x∈(if (T.any fun q=>decide (q.1=s))=true then LL else LL++[s]):=fun x hx=>by
  split
  ·exact hx
  ·exact List.mem_append_left _ hx
 refine⟨V.ok.put h1 h2 h3,fun q h=>?_,fun q h hl=>?_,fun q h=>?_,fun x hx=>?_,fun q h hl=>?_,?_⟩
 ·refine(yG q).mpr (.inr ⟨V.keep q h,fun e=>?_⟩)
  have:=hq q (V.keep q h) e
  have:=hT0 q h;omega
 ·rcases(yG q).mp h with rfl | ⟨h,_⟩
  ·simp only at hl;omega
  ·exact V.old q h hl
 ·rcases(yG q).mp h with rfl | ⟨h,_⟩
  ·simp only;omega
  ·exact V.len q h
 ·have old:x∈LL->∃q∈putT T s r,q.1=x/\q.2.length=N+1:=fun hx=>by
   obtain⟨q,h,e1,e2⟩:=V.l1 x hx;by_cases e:q.1=s
   ·exact⟨(s,r),(yG _).mpr (.inl rfl),by rw[<-e1,e],hr⟩
   ·exact⟨q,(yG _).mpr (.inr ⟨h,e⟩),e1,e2⟩
  split at hx
  ·exact old hx
  ·rcases List.mem_append.mp hx with hx | hx
   ·exact old hx
   ·rw[List.mem_singleton.mp hx];exact⟨(s,r),(yG _).mpr (.inl rfl),rfl,hr⟩
 ·rcases(yG q).mp h with rfl | ⟨h,_⟩
  ·split
   next hany=>
    obtain⟨p,hp,e⟩:=z3T hany
    have:=V.l2 p hp (hq p hp e)
    rwa [e]at this
   next=>exact List.mem_append_right _ (List.mem_singleton.mpr rfl)
  ·exact ll _ (V.l2 q h hl)
 ·rw[z7M]
  have:=V.cnt;split
  ·exact this
  ·rw[List.length_append,List.length_singleton];omega
theorem z2A{m:Int}{ds:List (List Int)}{pl:List Int}{n:Wd}{P:D->Wd->Prop}(h6:m<=6)(H:HouseOk m ds)(L:PlOk m pl)
  (h:∀T,Full m ds pl T->P (.p (.dict (gP T))) n):Ok (z12 [.p (ze m ds),.p (plD pl)]) n P:=by
 have S:StOk m pl:=⟨L.inr,L.srt,L.len⟩;have hm:=H.hi;have hf:=H.few;unfold z12 z7J;refine t_fn rfl ?_;walk_at "e";unfold mD1;walk_at "e";rw[if_pos (show yE [] (plD pl)=true from uo [] pl)];walk_at "e";unfold z0O;refine z3R (fun μ ρ n'=>n'=n/\∃(T:List (List Int×List Int)) (N:Nat) (row:List (List Int)) (x4 x5 x6 x7 x8:Option Sl),ρ=[some (Sl.val (.p (ze m ds))),some (Sl.val (.p (plD pl))),some (Sl.own (.dict (gP T))),some (Sl.val (.p (.list (row.map tupI)))),x4,x5,x6,x7,x8]/\TOk m ds pl T/\(pl,[])∈T/\(∀q∈T,q.2.length<=N)/\(∀s∈row,∃q∈T,q.1=s/\q.2.length=N)/\(∀q∈T,q.2.length=N->q.1∈row)/\(∀q∈T,q.2.length<N->Gone (gH ds) w0 ds.length T q ds.length)/\N<=T.length/\row.length<=T.length/\(row≠[]->N+1<=T.length)/\μ=64 - N) (fun μ ρ n' hI=>?_) (μ:=64) (by decide) ⟨rfl,[(pl,[])],0,[pl],none,none,none,none,none,rfl,⟨Tab.init,fun q hq=>by rw[List.mem_singleton.mp hq];exact⟨S,L.ne⟩⟩,List.mem_singleton.mpr rfl,fun q hq=>by rw[List.mem_singleton.mp hq];simp,fun s hs=>⟨(pl,[]),List.mem_singleton.mpr rfl,(List.mem_singleton.mp hs).symm,rfl⟩,fun q hq _=>by rw[List.mem_singleton.mp hq];exact List.mem_singleton.mpr rfl,fun q _ hq=>absurd hq (by omega),by simp,by simp,fun _=>by simp,rfl⟩;obtain⟨rfl,T0,N,row,x4,x5,x6,x7,x8,rfl,B0,hpl,hlen,hr1,hr2,hgo,hN,hrl,hN1,rfl⟩:=hI;have hT0:=B0.few h6;walk_at "e";rw[z7y];walk_at "e";cases hrow:row with
 | nil=>
  refine⟨fun z=>by simp at z,fun _=>?_⟩
  try walk_at "e"
  have gone:∀q∈T0,Gone (gH ds) w0 ds.length T0 q ds.length:=fun q hq=>hgo q hq (by
   have h1:=hlen q hq;rcases Nat.lt_or_ge q.2.length N with z | z
   ·exact z
   ·have:=hr2 q hq (by omega);rw[hrow]at this;cases this)
  have dom:∀r,DoorsIn ds.length r->∃q∈T0,q.1=zv (gH ds) pl r/\wLe w0 q.2 r:=fun r hr=>Dom.all (fun r' _ hl=>⟨(pl,[]),hpl,by rw[List.length_eq_zero_iff.mp (Nat.le_zero.mp hl)];rfl,by rw[List.length_eq_zero_iff.mp (Nat.le_zero.mp hl)];exact wLe.refl _ _⟩) gone r.length r hr (Nat.le_refl _);refine h T0 ⟨B0.tab.nd,B0.st,fun q hq=>⟨B0.tab.rd q hq,B0.tab.sd q hq,fun r' h1 h2=>?_⟩,fun r hr=>?_⟩
  ·obtain⟨p,hp,e1,e2⟩:=dom r' h1
   have:p=q:=z3B B0.tab.nd hp hq (by rw[e1,h2]);rw[<-this];exact e2
  ·obtain⟨p,hp,e1,_⟩:=dom r hr;exact⟨p,hp,e1⟩
 | cons s0 srest=>
  rw[<-hrow];have hrne:row≠[]:=fun z=>by rw[hrow]at z;cases z
  have hN1:=hN1 hrne;refine⟨fun _=>⟨64 - N - 1,by omega,?_⟩,fun z=>by rw[hrow]at z;simp at z⟩;refine t_seq ?_;walk_at "e";rw[zCS (by rw[List.length_map];omega)];walk_at "e";refine w5 (fun i ρ n2=>n2=n'/\∃(T:List (List Int×List Int)) (LL:List (List Int)) (x5 x6 x7 x8:Option Sl),ρ=[some (Sl.val (.p (ze m ds))),some (Sl.val (.p (plD pl))),some (Sl.own (.dict (gP T))),some (Sl.val (.p (.list (row.map tupI)))),some (Sl.own (.list (LL.map tupI))),x5,x6,x7,x8]/\Lev m ds pl N T0 T LL/\(∀q∈T,(q.2.length<N\/q.2.length=N/\q.1∈row.take i)->Gone (gH ds) w0 ds.length T q ds.length)) (fun i ρ n2 hi hI=>?_) (fun ρ n2 hI=>?_) ⟨by trivial,T0,[],x5,x6,x7,x8,rfl,⟨B0,fun q h=>h,fun q h _=>h,fun q h=>by have:=hlen q h;omega,fun s hs=>(nomatch hs),fun q h hl=>by have:=hlen q h;omega,rfl⟩,fun q hq hh=>hgo q hq (by
   rcases hh with hh | ⟨_,hh⟩
   ·exact hh
   ·simp at hh)⟩
  ·obtain⟨rfl,T,LL,x5,x6,x7,x8,rfl,V,hG⟩:=hI;have hi':i<row.length:=by simpa using hi
   rw[List.getElem_map];refine⟨_,rfl,?_⟩;obtain⟨q0,hq0,eq0,lq0⟩:=hr1 row[i] (List.getElem_mem hi');have Sp:=B0.st q0 hq0;have hpd:=B0.tab.rd q0 hq0;rw[<-eq0];rw[zZ];walk_at "e";rw[y7 (by simp;omega),List.length_map,y3 _ (by omega)];walk_at "e";rw[<-zZ];refine w5 (fun d ρ n3=>n3=n2/\d<=ds.length/\∃(T':List (List Int×List Int)) (LL:List (List Int)) (x6 x7 x8:Option Sl),ρ=[some (Sl.val (.p (ze m ds))),some (Sl.val (.p (plD pl))),some (Sl.own (.dict (gP T'))),some (Sl.val (.p (.list (row.map tupI)))),some (Sl.own (.list (LL.map tupI))),some (Sl.val (.p (tupI q0.1))),x6,x7,x8]/\Lev m ds pl N T0 T' LL/\Low w0 T T'/\Gone (gH ds) w0 ds.length T' q0 d) (fun d ρ n3 hd hI=>?_) (fun ρ n3 hI=>?_) ⟨by trivial,Nat.zero_le _,T,LL,x6,x7,x8,rfl,V,Low.refl _,fun d hd=>absurd hd (by omega)⟩
   ·obtain⟨rfl,hdl,T',LL,x6,x7,x8,rfl,V',hL',hGo'⟩:=hI;have hd':d<ds.length:=by simpa[zR]using hd
    have ek:(upto (ds.length:Int).toNat)[d]'(by rw[zR];omega)=(d:Int):=by simp[upto]
    have hT':=V'.ok.few h6;have hLL:LL.length<=63:=by have:=V'.cnt;omega
    have d1:=H.doors _ (yq (l:=ds) (i:=(d:Int).toNat) (d:=[]) (by omega));have hq0':=V'.keep q0 hq0;have hne:T'≠[]:=fun z=>by rw[z]at hq0';cases hq0'
    have eL:zv (gH ds) pl (q0.2++[(d:Int)])=gH ds d q0.1:=by rw[xJ,B0.tab.sd q0 hq0]
    have hrow':DoorsIn ds.length (q0.2++[(d:Int)]):=hpd.snoc hd';have hwl:(q0.2++[(d:Int)]).length=N+1:=by rw[List.length_append,lq0];rfl
    have Ss:StOk m (gH ds d q0.1)/\gH ds d q0.1≠[]:=⟨z1e hm d1 Sp.1,z8n hm d1 Sp.1 Sp.2⟩;rw[List.getElem_map,ek];refine⟨_,rfl,?_⟩;walk_at "e";refine z2F H Sp.1 (by omega) (by omega) ?_;walk_at "e";rw[z1F V'.ok.tab.nd hq0'];walk_at "e";rw[uX (by omega)];walk_at "e";have put:(∀q∈T',q.1=gH ds d q0.1->q.2.length=N+1/\wLe w0 (q0.2++[(d:Int)]) q.2)->Lev m ds pl N T0 (putT T' (gH ds d q0.1) (q0.2++[(d:Int)])) (if (T'.any fun q=>decide (q.1=gH ds d q0.1))=true then LL else LL++[gH ds d q0.1])/\Low w0 T (putT T' (gH ds d q0.1) (q0.2++[(d:Int)]))/\Gone (gH ds) w0 ds.length (putT T' (gH ds d q0.1) (q0.2++[(d:Int)])) q0 (d+1):=fun hlt=>by
     have low:Low w0 T' (putT T' (gH ds d q0.1) (q0.2++[(d:Int)])):=Low.put fun q hq e=>(hlt q hq e).2;refine⟨V'.put hlen eL hrow' Ss hwl fun q hq e=>(hlt q hq e).1,hL'.trans low,fun e he=>?_⟩;by_cases ed:e=d
     ·subst ed;exact⟨_,(yG _).mpr (.inl rfl),rfl,wLe.refl _ _⟩
     ·exact(hGo'.low low) e (by omega)
    rw[show fIn true (tupI (gH ds d q0.1)) (.dict (gP T'))=_ from z33 hne true (gH ds d q0.1)];walk_at "e";cases hany:T'.any fun q=>decide (q.1=gH ds d q0.1)with
    | false=>
     walk_at "e";obtain⟨g1,g2,g3⟩:=put fun q hq e=>absurd e (z68 hany q hq);rw[hany,if_neg Bool.false_ne_true]at g1;rw[show fIn true (tupI (gH ds d q0.1)) (.dict (gP T'))=_ from z33 hne true (gH ds d q0.1),hany];walk_at "e";refine z1J rfl ?_;walk_at "e";refine⟨_,rfl,by rw[List.length_map];omega,?_⟩;unfold z0Q;walk_at "e";rw[show ownD _ 2=some (gP T') from rfl];walk_at "e";rw[show putD (gP T') (tupI (gH ds d q0.1)) (tupI (q0.2++[(d:Int)]))=_ from z5T (β:=Unit) (J:=tupI) T' (by omega) (gH ds d q0.1) (q0.2++[(d:Int)])];walk_at "e";exact⟨by trivial,hd',_,LL++[gH ds d q0.1],_,_,_,by rw[List.map_append];rfl,g1,g2,g3⟩
    | true=>
     obtain⟨q,hq,eq⟩:=z3T hany;walk_at "e";rw[show fIx (.dict (gP T')) (tupI (gH ds d q0.1))=some (tupI q.2) from by rw[<-eq];exact z1F V'.ok.tab.nd hq];walk_at "e";have uniq:∀q'∈T',q'.1=gH ds d q0.1->q'=q:=fun q' hq' e=>z3B V'.ok.tab.nd hq' hq (by rw[e,eq]);have skip:wLe w0 q.2 (q0.2++[(d:Int)])->Gone (gH ds) w0 ds.length T' q0 (d+1):=fun hle e he=>by
      by_cases ed:e=d
      ·subst ed;exact⟨q,hq,eq,hle⟩
      ·exact hGo' e (by omega)
     simp only[List.length_map,hwl];by_cases cl:q.2.length=N+1
     ·rw[decide_eq_true (show(q.2.length:Int)=((N+1:Nat):Int) by omega)];walk_at "e";rw[show fIx (.dict (gP T')) (tupI (gH ds d q0.1))=some (tupI q.2) from by rw[<-eq];exact z1F V'.ok.tab.nd hq];walk_at "e";rw[z80];walk_at "e";cases hlt:HT.lexLt (q0.2++[(d:Int)]) q.2 with
      | true=>
       walk_at "e";obtain⟨g1,g2,g3⟩:=put fun q' hq' e=>by
        rw[uniq q' hq' e];exact⟨cl,by rw[sLe_iff];exact .inr ⟨by omega,z0g hlt⟩⟩
       rw[hany,if_pos rfl]at g1;rw[show fIn true (tupI (gH ds d q0.1)) (.dict (gP T'))=_ from z33 hne true (gH ds d q0.1),hany];walk_at "e";unfold z0Q;walk_at "e";rw[show ownD _ 2=some (gP T') from rfl];walk_at "e";rw[show putD (gP T') (tupI (gH ds d q0.1)) (tupI (q0.2++[(d:Int)]))=_ from z5T (β:=Unit) (J:=tupI) T' (by omega) (gH ds d q0.1) (q0.2++[(d:Int)])];walk_at "e";exact⟨by trivial,hd',_,LL,_,_,_,rfl,g1,g2,g3⟩
      | false=>
       walk_at "e";exact⟨by trivial,hd',T',LL,_,_,_,rfl,V',hL',skip (by rw[sLe_iff];exact .inr ⟨by omega,hlt⟩)⟩
     ·rw[decide_eq_false (show ¬(q.2.length:Int)=((N+1:Nat):Int) by omega)];walk_at "e"
      have:=V'.len q hq;exact⟨by trivial,hd',T',LL,_,_,_,rfl,V',hL',skip (by rw[sLe_iff];exact .inl (by omega))⟩
   ·obtain⟨rfl,hdl,T',LL,x6,x7,x8,rfl,V',hL',hGo'⟩:=hI;rw[List.length_map,zR,show(ds.length:Int).toNat=ds.length by omega]at hGo';refine⟨by trivial,T',LL,_,_,_,_,rfl,V',fun q hq hh=>?_⟩;have hqT0:q∈T0:=V'.old q hq (by omega);rcases hh with hh | ⟨h1,h2⟩
    ·exact(hG q (V.keep q hqT0) (.inl hh)).low hL'
    ·rw[List.take_add_one,List.getElem?_eq_getElem hi',Option.toList_some,List.mem_append,List.mem_singleton]at h2;rcases h2 with h2 | h2
     ·exact(hG q (V.keep q hqT0) (.inr ⟨h1,h2⟩)).low hL'
     ·have:q=q0:=z3B B0.tab.nd hqT0 hq0 (by rw[h2,eq0]);rw[this];exact hGo'
  ·obtain⟨rfl,T,LL,x5,x6,x7,x8,rfl,V,hG⟩:=hI;rw[List.length_map,List.take_length]at hG;have hcnt:=V.cnt;have hT:=V.ok.few h6;unfold z9N;refine wX rfl ?_;refine⟨64 - (N+1),by omega,by trivial,T,N+1,LL,none,_,_,_,_,rfl,V.ok,V.keep _ hpl,V.len,V.l1,V.l2,fun q hq hl=>?_,by omega,by omega,fun z=>?_,rfl⟩
   ·have hqT0:q∈T0:=V.old q hq (by omega);rcases Nat.lt_or_ge q.2.length N with z | z
    ·exact hG q hq (.inl z)
    ·exact hG q hq (.inr ⟨by omega,hr2 q hqT0 (by omega)⟩)
   ·have:=List.length_pos_iff.mpr z;omega
noncomputable def stds:Nat->List (List Int)
 | 0=>[[]]
 | k+1=>stds k++(stds k).map fun s=>s++[(k:Int)]
theorem uU:∀{k:Nat} {s:List Int},s∈stds k->s.length<=k
 | 0,s,h=>by simp[stds]at h;simp[h]
 | k+1,s,h=>by
  rcases List.mem_append.mp h with h | h
  ·exact Nat.le_succ_of_le (uU h)
  ·obtain⟨q,hq,rfl⟩:=List.mem_map.mp h
   have:=uU hq;simp;omega
theorem stds_mem:∀{k:Nat} {s:List Int},s∈stds k↔s.Pairwise (·<·)/\∀x∈s,0<=x/\x<(k:Int)
 | 0,s=>by
  constructor
  ·intro h;simp[stds]at h;simp[h]
  ·intro⟨_,h⟩;cases s with
   | nil=>simp[stds]
   | cons a r=>have:=h a (by simp);omega
 | k+1,s=>by
  unfold stds;rw[List.mem_append];constructor
  ·rintro(h | h)
   ·obtain⟨h1,h2⟩:=stds_mem.mp h;exact⟨h1,fun x hx=>by have:=h2 x hx;omega⟩
   ·obtain⟨q,hq,rfl⟩:=List.mem_map.mp h;obtain⟨h1,h2⟩:=stds_mem.mp hq;refine⟨List.pairwise_append.mpr ⟨h1,by simp,fun a ha b hb=>by rw[List.mem_singleton.mp hb];exact(h2 a ha).2⟩,fun x hx=>?_⟩;rcases List.mem_append.mp hx with hx | hx
    ·have:=h2 x hx;omega
    ·rw[List.mem_singleton.mp hx];omega
  ·rintro⟨h1,h2⟩;rcases List.eq_nil_or_concat s with rfl | ⟨q,y,rfl⟩
   ·exact .inl (stds_mem.mpr ⟨.nil,fun x hx=>(nomatch hx)⟩)
   ·rw[List.concat_eq_append]at h1 h2 |-;obtain⟨p1,_,p3⟩:=List.pairwise_append.mp h1;have hq:∀x∈q,x<y:=fun x hx=>p3 x hx y (by simp);have hy:=h2 y (by simp);by_cases e:y=(k:Int)
    ·subst e;exact .inr (List.mem_map.mpr ⟨q,stds_mem.mpr ⟨p1,fun x hx=>⟨(h2 x (by simp[hx])).1,hq x hx⟩⟩,rfl⟩)
    ·refine .inl (stds_mem.mpr ⟨h1,fun x hx=>⟨(h2 x hx).1,?_⟩⟩);rcases List.mem_append.mp hx with hx | hx
     ·have:=hq x hx;omega
     ·rw[List.mem_singleton.mp hx];omega
theorem z2n:∀k:Nat,(stds k).Nodup
 | 0=>by simp[stds]
 | k+1=>by
  unfold stds;refine List.nodup_append.mpr ⟨z2n k,?_,fun a ha b hb e=>?_⟩
  ·exact List.Pairwise.map _ (fun a b h e=>h (List.append_cancel_right e)) (z2n k)
  ·subst e;obtain⟨q,_,rfl⟩:=List.mem_map.mp hb
   have:=(stds_mem.mp ha).2 (k:Int) (by simp);omega
theorem z03:∀k:Nat,(stds k).length=2 ^ k
 | 0=>rfl
 | k+1=>by unfold stds;rw[List.length_append,List.length_map,z03 k];omega
noncomputable def sts(k:Nat):List (List Int):=(stds k).tail
theorem wW:∀k:Nat,stds k=[]::sts k
 | 0=>rfl
 | k+1=>by
  unfold sts;rw[show stds (k+1)=stds k++(stds k).map fun s=>s++[(k:Int)] from rfl,wW k];rfl
theorem sts_mem{k:Nat}{s:List Int}:s∈sts k↔s≠[]/\s∈stds k:=by
 have nd:=z2n k;rw[wW k]at nd |-;obtain⟨h1,_⟩:=List.nodup_cons.mp nd;constructor
 ·intro h;exact⟨fun e=>h1 (e▸h),List.mem_cons_of_mem _ h⟩
 ·rintro⟨h2,h3⟩;exact(List.mem_cons.mp h3).resolve_left h2
theorem z3i{k:Nat}(h:k<=6):(sts k).length<=63:=by
 have:=z03 k;rw[wW k,List.length_cons]at this
 have:2 ^ k<=2 ^ 6:=Nat.pow_le_pow_right (by decide) h;omega
section
variable{m:Int}{ds:List (List Int)}
theorem zAp(h0:0<=m)(h8:m<=8){s:List Int}(h:s∈stds m.toNat):StOk m s:=by
 obtain⟨h1,h2⟩:=stds_mem.mp h;exact⟨fun x hx=>by have:=h2 x hx;omega,h1,by have:=uU h;omega⟩
theorem z5o(h0:0<=m)(h8:m<=8){s:List Int}(h:s∈sts m.toNat):PlOk m s:=by
 obtain⟨h1,h2⟩:=sts_mem.mp h;have S:=zAp h0 h8 h2;exact⟨h1,S.inr,S.srt,S.len⟩
theorem zBz(h0:0<=m){s:List Int}(S:StOk m s)(h:s≠[]):s∈sts m.toNat:=sts_mem.mpr ⟨h,stds_mem.mpr ⟨S.srt,fun x hx=>by have:=S.inr x hx;omega⟩⟩
theorem xg(f:Int->List Int->List Int)(s:List Int)(d:Int)(r:List Int):zv f s (d::r)=zv f (f d s) r:=rfl
theorem doorsC{n:Nat}{d:Int}{r:List Int}:DoorsIn n (d::r)↔(0<=d/\d<n)/\DoorsIn n r:=List.forall_mem_cons
theorem z8v{n:Nat}{a r:List Int}(h1:DoorsIn n a)(h2:DoorsIn n r):DoorsIn n (a++r):=fun x hx=>(List.mem_append.mp hx).elim (h1 x) (h2 x)
theorem z7u(H:HouseOk m ds){d:Int}(hd:0<=d/\d<ds.length){s:List Int}(S:StOk m s):StOk m (gH ds d s):=z1e H.hi (H.doors _ (yq (l:=ds) (i:=d.toNat) (d:=[]) (by omega))) S
theorem z0Y{y:Int}(h:0<=y/\y<m):StOk m [y]:=⟨fun x hx=>by rw[List.mem_singleton.mp hx];exact h,by simp,by simp⟩
theorem yy(H:HouseOk m ds):∀{r:List Int},DoorsIn ds.length r->∀{s:List Int},StOk m s->∀x,x∈zv (gH ds) s r↔∃y∈s,x∈zv (gH ds) [y] r
 | [],_,s,S,x=>by simp[zv]
 | d::r,hr,s,S,x=>by
  obtain⟨hd,hr⟩:=doorsC.mp hr;have D1:=H.doors _ (yq (l:=ds) (i:=d.toNat) (d:=[]) (by omega));rw[xg,yy H hr (z7u H hd S)];have e:∀z,z∈gH ds d s↔∃y∈s,z∈gH ds d [y]:=fun z=>by
   unfold gH;rw[wq H.hi D1 S];constructor
   ·rintro⟨y,hy,e⟩;exact⟨y,hy,(wq H.hi D1 (z0Y (S.inr y hy)) z).mpr ⟨y,by simp,e⟩⟩
   ·rintro⟨y,hy,h⟩;obtain⟨y',h1,h2⟩:=(wq H.hi D1 (z0Y (S.inr y hy)) z).mp h;exact⟨y,hy,by rw[<-List.mem_singleton.mp h1];exact h2⟩
  constructor
  ·rintro⟨z,hz,h⟩;obtain⟨y,hy,h2⟩:=(e z).mp hz;exact⟨y,hy,by rw[xg];exact(yy H hr (z7u H hd (z0Y (S.inr y hy))) x).mpr ⟨z,h2,h⟩⟩
  ·rintro⟨y,hy,h⟩;rw[xg]at h;obtain⟨z,hz,h⟩:=(yy H hr (z7u H hd (z0Y (S.inr y hy))) x).mp h;exact⟨z,(e z).mpr ⟨y,hy,hz⟩,h⟩
theorem z0y(H:HouseOk m ds):∀{r:List Int},DoorsIn ds.length r->∀{y:Int},0<=y/\y<m->∃z,zv (gH ds) [y] r=[z]/\0<=z/\z<m
 | [],_,y,hy=>⟨y,rfl,hy⟩
 | d::r,hr,y,hy=>by
  obtain⟨hd,hr⟩:=doorsC.mp hr;have D1:=H.doors _ (yq (l:=ds) (i:=d.toNat) (d:=[]) (by omega));have e:gH ds d [y]=[(ds.getD d.toNat []).getD y.toNat 0]:=(z5n (r:=[(ds.getD d.toNat []).getD y.toNat 0]) H.hi D1 (z0Y hy) (by simp) fun x=>by simp).symm
  have:=(z7u H hd (z0Y hy)).inr ((ds.getD d.toNat []).getD y.toNat 0) (by rw[e];simp);rw[xg,e];exact z0y H hr this
noncomputable def gth(ds:List (List Int))(s:List Int):Bool:=@decide (∃r,DoorsIn ds.length r/\(zv (gH ds) s r).length=1) (Classical.propDecidable _)
theorem gth_iff{s:List Int}:gth ds s=true↔∃r,DoorsIn ds.length r/\(zv (gH ds) s r).length=1:=by
 unfold gth;exact@decide_eq_true_iff _ (Classical.propDecidable _)
end
theorem z5W{α:Type}[DecidableEq α]:∀{G S:List α},G.Nodup->(∀s∈G,s∈S)->G.length<=S.length
 | [],S,_,_=>Nat.zero_le _
 | x::G,S,nd,h=>by
  obtain⟨h1,h2⟩:=List.nodup_cons.mp nd;have hx:x∈S:=h x List.mem_cons_self
  have:=z5W (S:=S.erase x) h2 fun s hs=>(List.mem_erase_of_ne fun e=>h1 (by rw[<-e];exact hs)).mpr (h s (List.mem_cons_of_mem _ hs));rw[List.length_erase_of_mem hx]at this
  have:=List.length_pos_of_mem hx;simp only[List.length_cons];omega
section
variable{m:Int}{ds:List (List Int)}
theorem zBE{s:List Int}(S:StOk m s):s.Nodup:=S.srt.imp fun h=>by omega
theorem zBk{s:List Int}(S:StOk m s)(h:s≠[]){z:Int}(k:∀x∈s,x=z):s.length=1:=by
 have:=z5W (S:=[z]) (zBE S) fun x hx=>by rw[k x hx];simp
 have:=List.length_pos_iff.mpr h;simp at *;omega
theorem z9n(H:HouseOk m ds){s u:List Int}(S:StOk m s)(U:StOk m u)(hs:s≠[])(sub:∀x∈s,x∈u)(h:gth ds u=true):gth ds s=true:=by
 obtain⟨r,hr,e⟩:=gth_iff.mp h;obtain⟨z,ez⟩:=List.length_eq_one_iff.mp e;refine gth_iff.mpr ⟨r,hr,zBk (z:=z) (ug H S hr) (z2P H S hs hr) fun x hx=>?_⟩;obtain⟨y,hy,h2⟩:=(yy H hr S x).mp hx
 have:=(yy H hr U x).mpr ⟨y,sub y hy,h2⟩;rw[ez]at this;exact List.mem_singleton.mp this
theorem z9F(H:HouseOk m ds){s r:List Int}(hr:DoorsIn ds.length r)(h:gth ds (zv (gH ds) s r)=true):gth ds s=true:=by
 obtain⟨r',hr',e⟩:=gth_iff.mp h;exact gth_iff.mpr ⟨r++r',z8v hr hr',by rw[z37];exact e⟩
theorem z1O(H:HouseOk m ds)(h:∀a b:Int,StOk m [a,b]->gth ds [a,b]=true):∀(k:Nat) (s:List Int),s.length<=k->StOk m s->s≠[]->gth ds s=true
 | 0,s,hl,S,hs=>absurd (List.length_eq_zero_iff.mp (by omega)) hs
 | k+1,s,hl,S,hs=>by
  match s,hl,S,hs with
  | [x],_,_,_=>exact gth_iff.mpr ⟨[],fun x hx=>(nomatch hx),rfl⟩
  | a::b::u,hl,S,hs=>
   have Sab:StOk m [a,b]:=⟨fun x hx=>S.inr x (by simp at hx |-;rcases hx with h | h<;>simp[h]),by
    have:=S.srt;rw[List.pairwise_cons]at this;simp[this.1 b (by simp)],by simp⟩
   obtain⟨r,hr,e⟩:=gth_iff.mp (h a b Sab);obtain⟨z,ez⟩:=List.length_eq_one_iff.mp e;refine z9F H hr (z1O H h k _ ?_ (ug H S hr) (z2P H S hs hr))
   have:=z5W (G:=zv (gH ds) (a::b::u) r) (S:=(b::u).map fun y=>(zv (gH ds) [y] r).headD 0) (zBE (ug H S hr)) fun x hx=>by
    obtain⟨y,hy,h2⟩:=(yy H hr S x).mp hx;have key:∀y,y∈a::b::u->x∈zv (gH ds) [y] r->(zv (gH ds) [y] r).headD 0=x:=fun y hy h2=>by
     obtain⟨w,ew,_⟩:=z0y H hr (S.inr y hy);rw[ew]at h2 |-;exact(List.mem_singleton.mp h2).symm
    rcases List.mem_cons.mp hy with rfl | hy
    ·refine List.mem_map.mpr ⟨b,List.mem_cons_self,?_⟩;have h3:x∈zv (gH ds) [y,b] r:=(yy H hr Sab x).mpr ⟨y,by simp,h2⟩;obtain⟨w,ew,_⟩:=z0y H hr (S.inr b (by simp));have h4:w∈zv (gH ds) [y,b] r:=(yy H hr Sab w).mpr ⟨b,by simp,by rw[ew];simp⟩;rw[ez]at h3 h4;rw[ew,List.mem_singleton.mp h3,List.mem_singleton.mp h4];rfl
    ·exact List.mem_map.mpr ⟨y,hy,key y (List.mem_cons_of_mem _ hy) h2⟩
   rw[List.length_map]at this;simp only[List.length_cons]at hl this |-;omega
noncomputable def prs(m:Nat):List (List Int):=(List.range m).flatMap fun a=>(List.range (m - (a+1))).map fun(i:Nat)=>[(a:Int),(a:Int)+1+(i:Int)]
theorem uR:∀m:Nat,m<=6->(prs m).Perm ((sts m).filter fun s:List Int=>decide (s.length=2))
 | 0,_=>by decide +kernel
 | 1,_=>by decide +kernel
 | 2,_=>by decide +kernel
 | 3,_=>by decide +kernel
 | 4,_=>by decide +kernel
 | 5,_=>by decide +kernel
 | 6,_=>by decide +kernel
theorem z9f:∀m:Nat,m<=6->(prs m).Pairwise fun a b=>HT.lexLt a b=true
 | 0,_=>by decide +kernel
 | 1,_=>by decide +kernel
 | 2,_=>by decide +kernel
 | 3,_=>by decide +kernel
 | 4,_=>by decide +kernel
 | 5,_=>by decide +kernel
 | 6,_=>by decide +kernel
theorem z2N(h0:0<=m)(h6:m<=6){s:List Int}(h:s∈prs m.toNat):s∈sts m.toNat/\s.length=2:=by
 obtain⟨h1,h2⟩:=List.mem_filter.mp ((uR m.toNat (by omega)).mem_iff.mp h);exact⟨h1,of_decide_eq_true h2⟩
theorem z99(h0:0<=m)(h6:m<=6){a b:Int}(S:StOk m [a,b]):[a,b]∈prs m.toNat:=
 (uR m.toNat (by omega)).mem_iff.mpr (List.mem_filter.mpr ⟨zBz h0 S (by simp),rfl⟩)
noncomputable def aps(m:Int)(ds:List (List Int)):List (List Int):=(prs m.toNat).filter fun s=>!gth ds s
theorem z42(h0:0<=m)(h6:m<=6){us:List (List Int)}(hp:us.Perm (((sts m.toNat).filter fun s:List Int=>decide (s.length=2)).filter fun s=>!gth ds s))(hs:us.Pairwise fun a b=>HT.lexLt b a=false):us=aps m ds:=by
 refine List.Perm.eq_of_pairwise (le:=fun a b=>HT.lexLt b a=false) (fun x y _ _ h1 h2=>z05 h2 h1) hs ?_ (hp.trans ((uR m.toNat (by omega)).filter _).symm);exact(z9f m.toNat (by omega)).filter _ |>.imp fun h=>z0g h
theorem zAE(H:HouseOk m ds)(h6:m<=6):(aps m ds=[])↔gth ds (upto m.toNat)=true:=by
 have hlo:=H.lo;have S:StOk m (upto m.toNat):=⟨fun x hx=>by have:=mem_upto.mp hx;omega,(stds_mem (k:=m.toNat) (s:=upto m.toNat)).mp ?_ |>.1,by rw[zR];omega⟩
 ·have hne:upto m.toNat≠[]:=fun z=>by have:=congrArg List.length z;rw[zR]at this;simp at this;omega
  constructor
  ·intro h;refine z1O H (fun a b Sab=>?_) _ _ (Nat.le_refl _) S hne;cases e:gth ds [a,b]with
   | true=>rfl
   | false=>
    have:[a,b]∈aps m ds:=List.mem_filter.mpr ⟨z99 (by omega) h6 Sab,by rw[e];rfl⟩;rw[h]at this;cases this
  ·intro h;refine List.filter_eq_nil_iff.mpr fun s hs z=>?_;obtain⟨h1,h2⟩:=z2N (by omega) h6 hs;have P:=z5o (m:=m) (by omega) H.hi h1;rw[z9n H ⟨P.inr,P.srt,P.len⟩ S P.ne (fun x hx=>mem_upto.mpr (by have:=P.inr x hx;omega)) h]at z;cases z
 ·have:m=1\/m=2\/m=3\/m=4\/m=5\/m=6:=by omega
  rcases this with rfl | rfl | rfl | rfl | rfl | rfl<;>decide +kernel
def Shut(ds:List (List Int))(ts:List (List Int)):Prop:=∀s∈ts,∀d:Int,0<=d/\d<ds.length->gH ds d s∈ts
def Bars(m:Int)(ds:List (List Int))(pl:List Int)(ts:List (List Int)):Prop:=(∀s∈ts,StOk m s/\2<=s.length)/\Shut ds ts/\pl∈ts
noncomputable def z0w(m:Int)(ds:List (List Int))(pl:List Int)(ts:List (List Int)):Bool:=@decide (Bars m ds pl ts) (Classical.propDecidable _)
theorem barsB_iff{pl:List Int}{ts:List (List Int)}:z0w m ds pl ts=true↔Bars m ds pl ts:=by
 unfold z0w;exact@decide_eq_true_iff _ (Classical.propDecidable _)
theorem z0v{pl:List Int}{ts:List (List Int)}(h:¬Bars m ds pl ts):z0w m ds pl ts=false:=by
 cases e:z0w m ds pl ts with
 | false=>rfl
 | true=>exact absurd (barsB_iff.mp e) h
theorem z3w{ts:List (List Int)}(h:Shut ds ts):∀{r:List Int},DoorsIn ds.length r->∀{s:List Int},s∈ts->zv (gH ds) s r∈ts
 | [],_,s,hs=>hs
 | d::r,hr,s,hs=>by
  obtain⟨hd,hr⟩:=doorsC.mp hr;rw[xg];exact z3w h hr (h s hs d hd)
theorem Bars.none{pl:List Int}{ts:List (List Int)}(B:Bars m ds pl ts):gth ds pl=false:=by
 cases e:gth ds pl with
 | false=>rfl
 | true=>
  obtain⟨r,hr,hl⟩:=gth_iff.mp e
  have:=(B.1 _ (z3w B.2.1 hr B.2.2)).2;omega
theorem z66(H:HouseOk m ds){pl:List Int}{T:List (List Int×List Int)}(F:Full m ds pl T){us:List (List Int)}(hp:us.Perm (T.map (·.1)))(h:gth ds pl=false):Bars m ds pl us:=by
 refine⟨fun s hs=>?_,fun s hs d hd=>?_,?_⟩
 ·obtain⟨q,hq,rfl⟩:=List.mem_map.mp (hp.mem_iff.mp hs);obtain⟨h1,h2⟩:=F.st q hq;refine⟨h1,?_⟩
  have:q.1.length≠0:=fun z=>h2 (List.length_eq_zero_iff.mp z)
  have:q.1.length≠1:=fun z=>by
   have:=gth_iff.mpr ⟨q.2,(F.least q hq).doors,by rw[(F.least q hq).lead];exact z⟩;rw[h]at this;cases this
  omega
 ·obtain⟨q,hq,rfl⟩:=List.mem_map.mp (hp.mem_iff.mp hs);obtain⟨q2,h2,e2⟩:=F.all (q.2++[d]) (z8v (F.least q hq).doors fun x hx=>by rw[List.mem_singleton.mp hx];exact hd);rw[z37,(F.least q hq).lead]at e2;exact hp.mem_iff.mpr (List.mem_map.mpr ⟨q2,h2,e2⟩)
 ·obtain⟨q2,h2,e2⟩:=F.all [] (fun x hx=>(nomatch hx));exact hp.mem_iff.mpr (List.mem_map.mpr ⟨q2,h2,e2⟩)
end
theorem wU{l:List PyData}(h:l.length<10000):itD (.list l)=some l:=by simp only[itD];rw[if_pos (by unfold lim;omega)]
theorem z4t(a b:List (List Int))(h:a.length+b.length<10000):fAdd (.list (a.map tupI)) (.list (b.map tupI))=some (.list ((a++b).map tupI)):=by
 simp only[fAdd];rw[if_pos (by unfold lim;simp;omega),List.map_append]
theorem cut1(l:List (List Int)):fSl (.list (([]::l).map tupI)) (some 1) none=some (.list (l.map tupI)):=by
 show some (PyData.list (cutD (([]::l).map tupI) (some 1) none))=_;unfold cutD
 have:HT.sIx (([]::l).map tupI).length 0 (some 1)=1:=by simp[HT.sIx]
 rw[this,show HT.sIx (([]::l).map tupI).length (([]::l).map tupI).length none=(([]::l).map tupI).length from rfl];simp;exact List.take_of_length_le (by simp)
theorem zBY{m:Int}{n:Wd}{P:D->Wd->Prop}(h0:0<=m)(h8:m<=8)(h:P (.p (.list ((sts m.toNat).map tupI))) n):Ok (z50 [.p (.int m)]) n P:=by
 unfold z50 z7m;refine t_fn rfl ?_;walk_at "e";rw[y7 (by omega),y3 m h0];walk_at "e";refine w5 (fun i ρ n'=>n'=n/\i<=m.toNat/\∃x2:Option Sl,ρ=[some (Sl.val (.p (.int m))),some (Sl.val (.p (.list ((stds i).map tupI)))),x2]) (fun i ρ n' hi hI=>?_) (fun ρ n' hI=>?_) ⟨by trivial,by omega,none,rfl⟩
 ·obtain⟨rfl,hil,x2,rfl⟩:=hI;have hi':i<m.toNat:=by simpa[zR]using hi
  have ek:(upto m.toNat)[i]'(by rw[zR];omega)=(i:Int):=by simp[upto]
  have hsz:=z03 i
  have:2 ^ i<=2 ^ 8:=Nat.pow_le_pow_right (by decide) (by omega);rw[List.getElem_map,ek];refine⟨_,rfl,?_⟩;walk_at "e";rw[wU (by rw[List.length_map];omega)];walk_at "e";refine zw (J:=tupI) (J':=tupI) (f:=fun s=>s++[(i:Int)]) (fun s hs=>?_) ?_
  ·walk_at "e";rw[uX (by have:=uU hs;omega)];walk_at "e";exact⟨rfl,by trivial⟩
  ·try walk_at "e"
   rw[z4t _ _ (by simp;omega)];walk_at "e";exact⟨by trivial,by omega,_,rfl⟩
 ·obtain⟨rfl,hil,x2,rfl⟩:=hI;rw[List.length_map,zR];walk_at "e";unfold mSl xL wZ;walk_at "e";refine t_some ?_;rw[show PyData.list (cutD ((stds m.toNat).map tupI) (some 1) none)=.list ((sts m.toNat).map tupI) from by
   have:=cut1 (sts m.toNat);rw[<-wW]at this;exact Option.some.inj this]
  walk_at "e";exact h
theorem z3e{α β:Type}{c:Env'->Mx Bool}{e:Env'->Mx D}{ρ:Env'}{n:Wd}{J:α->PyData}{J':β->PyData}{l:List α}{P:List PyData->Wd->Prop}(f:α->Bool)(g:α->β)(hc:∀a∈l,Ok (c (ρ++[some (Sl.val (.p (J a)))])) n fun t n2=>t=f a/\n2=n)(he:∀a∈l,f a=true->Ok (e (ρ++[some (Sl.val (.p (J a)))])) n fun y n2=>y=.p (J' (g a))/\n2=n)(h:P (((l.filter f).map g).map J') n):Ok (zc c e ρ (l.map J) []) n P:=by
 refine wC (I:=fun k acc n'=>n'=n/\acc=(((l.take k).filter f).map g).map J') (fun k acc n' hk hI=>?_) (fun acc n' hI=>?_) ⟨rfl,by simp⟩
 ·obtain⟨rfl,rfl⟩:=hI;have hk':k<l.length:=by simpa using hk
  rw[List.getElem_map];refine(hc _ (List.getElem_mem hk')).imp fun t n2 ⟨e1,e2⟩=>?_;subst e1 e2;refine⟨fun ht=>(he _ (List.getElem_mem hk') ht).imp fun y n3 ⟨e3,e4⟩=>⟨_,e3,e4,?_⟩,fun ht=>⟨rfl,?_⟩⟩
  ·rw[wV hk',List.filter_append,List.map_append,List.map_append];simp only[List.filter_cons,ht,List.filter_nil,if_true,List.map_cons,List.map_nil]
  ·rw[wV hk',List.filter_append,List.map_append,List.map_append];simp only[List.filter_cons,ht,List.filter_nil,Bool.false_eq_true,if_false,List.map_nil,List.append_nil]
 ·obtain⟨rfl,rfl⟩:=hI;rw[List.length_map,List.take_length];exact h
theorem z04:∀l r:List (List Int),PyData.eqvAll (l.map tupI) (r.map tupI)=decide (l=r)
 | [],[]=>by simp[PyData.eqvAll]
 | [],b::r=>by simp[PyData.eqvAll]
 | a::l,[]=>by simp[PyData.eqvAll]
 | a::l,b::r=>by
  simp only[List.map_cons,PyData.eqvAll,z04 l r,xQ];by_cases h1:a=b<;>by_cases h2:l=r<;>simp[h1,h2]
theorem z3P{mk:Env'->Mx D}{mc:Env'->Mx Bool}{me:Env'->Mx D}{ρ:Env'}{n:Wd}{P:PyData->Wd->Prop}(hk:Ok (mk ρ) n fun d n'=>∃kvs:List (PyData×PyData),d=.p (.dict kvs)/\kvs.length<10000/\Ok (zc mc me ρ (kvs.map (·.1)) []) n' fun l n2=>P (.list l) n2):Ok (yr mk mc me ρ) n P:=by
 unfold yr;rw[zz];refine hk.imp fun d n' ⟨kvs,e1,hl,h⟩=>?_;subst e1;rw[zz,z2w];simp only[z7h];rw[if_pos (by unfold lim;omega),ya,zz];obtain⟨l,n2,e,p⟩:=h;refine⟨l,n2,?_,(y4 _ _).mpr p⟩;unfold Mx.sure;rw[e]
theorem z4W{l:List Int}(h:l≠[]):∃M∈l,z4N [.list (l.map PyData.int)]=some (.int M)/\∀x∈l,M<=x:=by
 obtain⟨M,e⟩:∃M,l.min?=some M:=by
  cases l with
  | nil=>exact absurd rfl h
  | cons x r=>exact⟨_,List.min?_cons ..⟩
 obtain⟨h1,h2⟩:=List.min?_eq_some_iff.mp e;refine⟨M,h1,?_,h2⟩;simp only[z4N];rw[zy];simp only[e,Option.map_some]
theorem z9R{m:Int}{ds:List (List Int)}{s:List Int}{T:List (List Int×List Int)}(F:Full m ds s T){M:Int}(hM:M∈T.map fun q=>(q.1.length:Int))(le:∀x∈T.map fun q=>(q.1.length:Int),M<=x):decide (M=1)=gth ds s:=by
 rw[Bool.eq_iff_iff,gth_iff,decide_eq_true_iff];constructor
 ·rintro rfl;obtain⟨q,hq,e⟩:=List.mem_map.mp hM;exact⟨q.2,(F.least q hq).doors,by rw[(F.least q hq).lead];omega⟩
 ·rintro⟨r,hr,hl⟩;obtain⟨q,hq,e⟩:=F.all r hr;have h1:=le q.1.length (List.mem_map.mpr ⟨q,hq,rfl⟩);rw[e,hl]at h1;obtain⟨p,hp,e2⟩:=List.mem_map.mp hM
  have:p.1.length≠0:=fun z=>(F.st p hp).2 (List.length_eq_zero_iff.mp z);omega
theorem z1s{ds:List (List Int)}{pl:List Int}(B:Best ds pl none):gth ds pl=false:=by
 cases e:gth ds pl with
 | false=>rfl
 | true=>
  obtain⟨r,hr,hl⟩:=gth_iff.mp e;exact absurd hl (B.no rfl r hr _ (wN ds pl r))
theorem z1o{ds:List (List Int)}{pl r:List Int}(B:Best ds pl (some r)):DoorsIn ds.length r/\(zv (gH ds) pl r).length=1/\∀r',DoorsIn ds.length r'->(zv (gH ds) pl r').length=1->r.length<=r'.length:=by
 obtain⟨b1,⟨st,b2,b3⟩,b4⟩:=B.yes r rfl;rw[wN]at b2;have b2:=Option.some.inj b2;refine⟨b1,by rw[b2];exact b3,fun r' h1 h2=>?_⟩
 have:=sLe_iff.mp (b4 r' h1 _ (wN ds pl r') h2);omega
theorem z3f{t:Adr}{m:Int}{ds:List (List Int)}{n:Wd}{P:D->Wd->Prop}(H:HouseOk m ds)(h6:m<=6)(h:P (.p (.list ((aps m ds).map tupI))) n):Ok (z30 t [.p (ze m ds)]) n P:=by
 have hlo:=H.lo;have hsz:=z3i (k:=m.toNat) (by omega);unfold z30 z8C;refine t_fn rfl ?_;walk_at "e";refine u6 H ?_;rw[zZ];walk_at "e";refine zBY (by omega) (by omega) ?_;walk_at "e";rw[wU (by rw[List.length_map];omega)];walk_at "e";refine z3e (J:=tupI) (J':=tupI) (f:=fun s:List Int=>decide (s.length=2)) (g:=fun s=>s) (fun s hs=>?_) (fun s hs _=>?_) ?_
 ·walk_at "e";rw[List.length_map];refine⟨?_,by trivial⟩;rw[decide_eq_decide];omega
 ·walk_at "e";exact⟨rfl,by trivial⟩
 rw[show(((sts m.toNat).filter fun s:List Int=>decide (s.length=2)).map fun s=>s)=(sts m.toNat).filter fun s:List Int=>decide (s.length=2) from List.map_id' _];have hfl:=List.length_filter_le (fun s:List Int=>decide (s.length=2)) (sts m.toNat)
 try walk_at "e"
 rw[wU (by rw[List.length_map];omega)];walk_at "e";rw[<-zZ];refine z3e (J:=tupI) (J':=tupI) (f:=fun s=>!gth ds s) (g:=fun s=>s) (fun s hs=>?_) (fun s hs _=>?_) ?_
 ·have L:=z5o (m:=m) (by omega) H.hi (List.mem_filter.mp hs).1;walk_at "e";refine z1P H L fun o B=>?_;walk_at "e";cases o with
  | none=>
   rw[show fIs false (rowO none) .none=some (.bool true) from rfl];walk_at "e";exact⟨by rw[z1s B];rfl,by trivial⟩
  | some r=>
   rw[show fIs false (rowO (some r)) .none=some (.bool false) from rfl];walk_at "e";obtain⟨b1,b2,_⟩:=z1o B;exact⟨by rw[gth_iff.mpr ⟨r,b1,b2⟩];rfl,by trivial⟩
 ·walk_at "e";exact⟨rfl,by trivial⟩
 rw[show((((sts m.toNat).filter fun s:List Int=>decide (s.length=2)).filter fun s=>!gth ds s).map fun s=>s)=((sts m.toNat).filter fun s:List Int=>decide (s.length=2)).filter fun s=>!gth ds s from List.map_id' _];have hfl2:=List.length_filter_le (fun s=>!gth ds s) ((sts m.toNat).filter fun s:List Int=>decide (s.length=2))
 try walk_at "e"
 obtain⟨us,e1,e2,e3⟩:=ud (ts:=((sts m.toNat).filter fun s:List Int=>decide (s.length=2)).filter fun s=>!gth ds s) (fun s hs=>(sts_mem.mp (List.mem_filter.mp (List.mem_filter.mp hs).1).1).1) (by omega);rw[e1];walk_at "e";rw[z42 (by omega) h6 e2 e3];exact h
noncomputable def z4c(l:List Int)(a b:Int):Bool:=l.all fun x=>decide (a<=x) && decide (x<=b)
theorem z09{l:List Int}{a b:Int}{n:Wd}{P:D->Wd->Prop}(hl:l.length<10000)(h:P (.p (.bool (z4c l a b))) n):Ok (F_q1 [.p (.tuple (l.map PyData.int)),.p (.int a),.p (.int b)]) n P:=by
 unfold F_q1 b_q1;refine t_fn rfl ?_;walk_at "e"
 try unfold yS
 walk_at "e";rw[z3z (by simpa using hl)];walk_at "e";refine zw (J':=PyData.bool) (f:=fun x=>decide (a<=x) && decide (x<=b)) (fun x hx=>?_) ?_
 ·walk_at "e";exact wL ⟨rfl,rfl⟩
 ·try walk_at "e"
  simp only[yQ];rw[show((l.map fun x=>decide (a<=x) && decide (x<=b)).map PyData.bool)=(l.map fun x=>decide (a<=x) && decide (x<=b)).map (fun b=>PyData.bool (id b)) from rfl,zu];walk_at "e";rw[show(((l.map fun x=>decide (a<=x) && decide (x<=b)).map id).all id)=z4c l a b by simp[z4c,List.all_map,Function.comp_def]];exact h
noncomputable def risG(lt:PyData->PyData->Bool)(l:List PyData):PyData->Bool
 | .int k=>lt (l.getD k.toNat .none) (l.getD (k.toNat+1) .none)
 | _=>true
noncomputable def risB(lt:PyData->PyData->Bool)(l:List PyData):Bool:=(rngD 0 ((l.length:Int) - 1)).all (risG lt l)
theorem z6i{lt:PyData->PyData->Bool}{l:List PyData}(h:risB lt l=true){i:Nat}{x y:PyData}(e1:l[i]?=some x)(e2:l[i+1]?=some y):lt x y=true:=by
 have h2:=(List.getElem?_eq_some_iff.mp e2).1;have hk:i<(rngD 0 ((l.length:Int) - 1)).length:=by rw[uT];omega
 have:=List.all_eq_true.mp h _ (List.getElem_mem hk);rw[uL]at this;simp only[risG]at this;rw[show(0+(i:Int)).toNat=i by omega,List.getD_eq_getElem?_getD,List.getD_eq_getElem?_getD,e1,e2]at this;exact this
theorem z20{l:List PyData}(lt:PyData->PyData->Bool){n:Wd}{P:D->Wd->Prop}(hl:l.length<10000)(hr:∀(i:Nat) x y,l[i]?=some x->l[i+1]?=some y->fLt x y=some (.bool (lt x y)))(h:P (.p (.bool (risB lt l))) n):Ok (F_q2 [.p (.tuple l)]) n P:=by
 unfold F_q2 b_q2;refine t_fn rfl ?_;walk_at "e"
 try unfold yS
 walk_at "e";rw[y7 (by omega)];walk_at "e";refine z3a (f:=fun d=>.bool (risG lt l d)) (fun d hd=>?_) ?_
 ·obtain⟨k,hk,rfl⟩:=List.mem_iff_getElem.mp hd;rw[uT]at hk;rw[uL];walk_at "e";have e1:fIx (.tuple l) (.int (0+(k:Int)))=some (l[k]'(by omega)):=z02 (by omega) (by rw[show(0+(k:Int)).toNat=k by omega];exact List.getElem?_eq_getElem (by omega));have e2:fIx (.tuple l) (.int (0+(k:Int)+1))=some (l[k+1]'(by omega)):=z02 (by omega) (by rw[show(0+(k:Int)+1).toNat=k+1 by omega];exact List.getElem?_eq_getElem (by omega));rw[e1];walk_at "e";rw[e2];walk_at "e";rw[hr k _ _ (List.getElem?_eq_getElem (by omega)) (List.getElem?_eq_getElem (by omega))];walk_at "e";refine⟨?_,by trivial⟩;simp only[risG];rw[show(0+(k:Int)).toNat=k by omega,List.getD_eq_getElem?_getD,List.getD_eq_getElem?_getD,List.getElem?_eq_getElem (by omega),List.getElem?_eq_getElem (by omega)];rfl
 ·try walk_at "e"
  simp only[yQ];rw[zu];walk_at "e";rw[show(((rngD 0 ((l.length:Int) - 1)).map fun d=>risG lt l d).all id)=risB lt l by simp[risB,List.all_map,Function.comp_def]];exact h
noncomputable def ltI:PyData->PyData->Bool
 | .int i,.int j=>decide (i<j)
 | _,_=>false
noncomputable def plB(pl:List Int)(m:Int):Bool:=z4c pl 0 (m - 1) && (decide (1<=(pl.length:Int)) && risB ltI (pl.map PyData.int))
theorem z0p{m:Int}{pl:List Int}{n:Wd}{P:D->Wd->Prop}(hl:pl.length<1000)(h:P (.p (.bool (plB pl m))) n):Ok (F_q3 [.p (plD pl),.p (.int m)]) n P:=by
 unfold F_q3 b_q3;refine t_fn rfl ?_;walk_at "e";refine z09 (by omega) ?_;unfold plB at h;cases c1:z4c pl 0 (m - 1)
 ·rw[c1]at h;walk_at "e";exact h
 ·rw[c1]at h;walk_at "e";rw[List.length_map];by_cases c2:1<=(pl.length:Int)
  ·rw[decide_eq_true c2]at h |-;walk_at "e";refine z20 ltI (by simp;omega) (fun i x y e1 e2=>?_) ?_
   ·rw[List.getElem?_map]at e1 e2;obtain⟨a,ea,rfl⟩:=Option.map_eq_some_iff.mp e1;obtain⟨b,eb,rfl⟩:=Option.map_eq_some_iff.mp e2;rfl
   ·exact h
  ·rw[decide_eq_false c2]at h |-;walk_at "e";exact h
theorem z8L:∀{l:List Int},(∀(i:Nat) (x y:Int),l[i]?=some x->l[i+1]?=some y->x<y)->l.Pairwise (·<·)
 | [],_=>.nil
 | [a],_=>by simp
 | a::b::r,h=>by
  have ih:=z8L (l:=b::r) fun i x y e1 e2=>h (i+1) x y e1 e2;have hab:=h 0 a b rfl rfl;refine List.pairwise_cons.mpr ⟨fun x hx=>?_,ih⟩;rcases List.mem_cons.mp hx with rfl | hx
  ·exact hab
  ·have:=(List.pairwise_cons.mp ih).1 x hx;omega
theorem z9e{m:Int}{s:List Int}(h8:s.length<=8):plB s m=true↔StOk m s/\s≠[]:=by
 unfold plB z4c;rw[Bool.and_eq_true,Bool.and_eq_true,List.all_eq_true,decide_eq_true_iff];constructor
 ·rintro⟨h1,h2,h3⟩;refine⟨⟨fun x hx=>?_,?_,h8⟩,fun z=>by rw[z]at h2;simp at h2⟩
  ·have:=h1 x hx;simp only[Bool.and_eq_true,decide_eq_true_iff]at this;omega
  ·refine z8L fun i x y e1 e2=>?_
   have:=z6i h3 (i:=i) (x:=.int x) (y:=.int y) (by rw[List.getElem?_map,e1];rfl) (by rw[List.getElem?_map,e2];rfl);exact of_decide_eq_true this
 ·rintro⟨S,hne⟩;refine⟨fun x hx=>?_,by have:=List.length_pos_iff.mpr hne;omega,?_⟩
  ·have:=S.inr x hx;simp only[Bool.and_eq_true,decide_eq_true_iff];omega
  ·unfold risB;rw[List.all_eq_true];intro d hd;obtain⟨k,hk,rfl⟩:=List.mem_iff_getElem.mp hd;rw[uT]at hk;rw[uL];simp only[risG];rw[List.length_map]at hk;rw[show(0+(k:Int)).toNat=k by omega,List.getD_eq_getElem?_getD,List.getD_eq_getElem?_getD,List.getElem?_map,List.getElem?_map,List.getElem?_eq_getElem (by omega),List.getElem?_eq_getElem (by omega)];exact decide_eq_true (z6A S.srt (List.getElem?_eq_getElem (by omega)) (List.getElem?_eq_getElem (by omega)))
noncomputable def apB(m:Int)(s:List Int):Bool:=plB s m && decide (2<=s.length)
theorem z5m{m:Int}{s:List Int}(h8:s.length<=8):apB m s=true↔StOk m s/\2<=s.length:=by
 unfold apB;rw[Bool.and_eq_true,z9e h8,decide_eq_true_iff];constructor
 ·exact fun⟨h1,h2⟩=>⟨h1.1,h2⟩
 ·exact fun⟨h1,h2⟩=>⟨⟨h1,fun z=>by rw[z]at h2;simp at h2⟩,h2⟩
section
variable{m:Int}{ds:List (List Int)}{pl:List Int}{ts:List (List Int)}{n:Wd}{P:D->Wd->Prop}
theorem z4M{s:List Int}(hl:s.length<=8)(h:P (.p (.bool (apB m s))) n):Ok (z6V [.p (plD s),.p (.int m)]) n P:=by
 unfold z6V z7B;refine t_fn rfl ?_;walk_at "e";refine z0p (by omega) ?_;unfold apB at h;cases c1:plB s m
 ·rw[c1]at h;walk_at "e";exact h
 ·rw[c1]at h;walk_at "e";rw[List.length_map,show decide ((2:Int)<=(s.length:Int))=decide (2<=s.length) from decide_eq_decide.mpr (by omega)];exact h
theorem z2W(ht:ts.length<1000)(hl:∀s∈ts,s.length<=8)(h:P (.p (.bool (ts.all (apB m)))) n):Ok (z44 [.p (.list (ts.map plD)),.p (.int m)]) n P:=by
 unfold z44 z7z;refine t_fn rfl ?_;walk_at "e";rw[wU (by rw[List.length_map];omega)];walk_at "e";refine zw (J:=plD) (J':=PyData.bool) (f:=apB m) (fun s hs=>?_) ?_
 ·walk_at "e";exact z4M (hl s hs) ⟨rfl,rfl⟩
 ·try walk_at "e"
  simp only[yQ];rw[show((ts.map (apB m)).map PyData.bool)=(ts.map (apB m)).map (fun b=>PyData.bool (id b)) from rfl,zu];walk_at "e";rw[show(((ts.map (apB m)).map id).all id)=ts.all (apB m) by simp[List.all_map,Function.comp_def]];exact h
noncomputable def gE(G:List (List Int)):List (PyData×PyData):=gJ (fun _:List Int=>PyData.bool true) (G.map fun s=>(s,[]))
noncomputable def pT(s:List Int):PyData:=.tuple [tupI s,.bool true]
theorem putE{G:List (List Int)}(hl:G.length<10000)(k:List Int):∃G',putD (gE G) (tupI k) (.bool true)=some (gE G')/\(∀x,x∈G'↔x∈G\/x=k)/\G'.length<=G.length+1:=by
 have:=z5T (β:=Unit) (J:=fun _:List Int=>PyData.bool true) (G.map fun s=>(s,[])) (by simpa using hl) k [];unfold putT at this;by_cases hk:k∈G
 ·refine⟨G,?_,fun x=>⟨.inl,fun h=>h.elim id fun e=>e▸hk⟩,by omega⟩;rw[if_pos (List.any_eq_true.mpr ⟨(k,[]),List.mem_map.mpr ⟨k,hk,rfl⟩,decide_eq_true rfl⟩)]at this;rw[show(G.map fun s=>(s,([]:List Int))).map (fun q=>if q.1=k then(q.1,[])else q)=G.map fun s=>(s,[]) by
   rw[List.map_map];refine List.map_congr_left fun s _=>?_;show(if s=k then(s,[])else(s,[]))=(s,([]:List Int));split<;>rfl]at this
  exact this
 ·refine⟨G++[k],?_,fun x=>by simp,by simp⟩;rw[if_neg (fun z=>by
   obtain⟨q,hq,e⟩:=List.any_eq_true.mp z;obtain⟨s,hs,rfl⟩:=List.mem_map.mp hq;exact hk ((of_decide_eq_true e)▸hs))]at this
  unfold gE;rw[List.map_append];exact this
theorem z8T:∀(l acc:List (List Int)),acc.length+l.length<9000->∃G,wP (l.map pT) (gE acc)=some (gE G)/\(∀x,x∈G↔x∈acc\/x∈l)/\G.length<=acc.length+l.length
 | [],acc,_=>⟨acc,rfl,fun x=>by simp,by simp⟩
 | s::l,acc,h=>by
  simp only[List.length_cons]at h;obtain⟨G1,e1,m1,l1⟩:=putE (G:=acc) (by omega) s;obtain⟨G2,e2,m2,l2⟩:=z8T l G1 (by omega);refine⟨G2,?_,fun x=>?_,by simp only[List.length_cons];omega⟩
  ·rw[List.map_cons];unfold pT wP;rw[e1];exact e2
  ·rw[m2,m1,List.mem_cons];constructor
   ·rintro((h | h) | h)
    ·exact .inl h
    ·exact .inr (.inl h)
    ·exact .inr (.inr h)
   ·rintro(h | h | h)
    ·exact .inl (.inl h)
    ·exact .inl (.inr h)
    ·exact .inr h
theorem zB4:∀G:List (List Int),xi (gE G)=some G
 | []=>rfl
 | s::G=>by
  show((zn (s.map PyData.int)).bind fun ns=>(xi (gE G)).map (ns::·))=_;rw[zy,zB4 G];rfl
theorem z8M{ρ:Env'}{i:Nat}{G:List (List Int)}(h:ρ[i]?=some (some (Sl.deep (noneK G)))){M:Env'->Mx D}{Q:D->Wd->Prop}{s:List Int}(k:Ok (M ρ) n fun d n'=>d=.p (plD s)/\Q (.p (.bool (decide (s∈G)))) n'):Ok (mInN i M ρ) n Q:=by
 unfold mInN;rw[zz];refine k.imp fun d n' ⟨e,q⟩=>?_;subst e;rw[z2w,show z2K ρ i=some G by unfold z2K;rw[h];exact z2p G];show Ok (Mx.opt ((fInN G (.tuple (s.map PyData.int))).map D.p)) n' Q;simp only[fInN];rw[zy];refine t_some ?_;show Q (.p (.bool (G.any fun q=>decide (q=s)))) n';rw[show(G.any fun q=>decide (q=s))=decide (s∈G) by
  rw[Bool.eq_iff_iff,List.any_eq_true,decide_eq_true_iff];constructor
  ·rintro⟨q,hq,e⟩;exact(of_decide_eq_true e)▸hq
  ·intro h;exact⟨s,h,decide_eq_true rfl⟩]
 exact q
theorem z1b(H:HouseOk m ds)(ht:ts.length<1000)(hs:∀s∈ts,StOk m s)(h:∀b:Bool,(b=true↔Shut ds ts/\pl∈ts)->P (.p (.bool b)) n):Ok (z5P [.p (ze m ds),.p (plD pl),.p (.list (ts.map plD))]) n P:=by
 have hf:=H.few;obtain⟨G,eG,mG,lG⟩:=z8T ts [] (by simp;omega);unfold z5P z7Y;refine t_fn rfl ?_;rw[zZ];walk_at "e";unfold z2j;walk_at "e";rw[wU (by rw[List.length_map];omega)];walk_at "e";refine zw (J:=plD) (J':=pT) (f:=fun s=>s) (fun s hs=>?_) ?_
 ·walk_at "e";exact⟨rfl,rfl⟩
 rw[List.map_id']
 try walk_at "e"
 refine wX (a:=.dict (gE G)) (by show(wP (ts.map pT) []).map PyData.dict=_;rw[show wP (ts.map pT) []=some (gE G) from eG];rfl) ?_;walk_at "e";unfold z6a;walk_at "e";rw[show ownD _ 3=some (gE G) from rfl];rw[Option.bind_some,zB4];refine t_msome ?_;walk_at "e";rw[z3z (by rw[List.length_map];omega)];walk_at "e";refine w5 (fun k ρ n'=>n'=n/\(∃x4:Option Sl,ρ=[some (Sl.val (.p (ze m ds))),some (Sl.val (.p (plD pl))),some (Sl.val (.p (.list (ts.map plD)))),some (Sl.deep (noneK G)),x4])/\∀j:Nat,j<k->∀s∈ts,gH ds (j:Int) s∈ts) (fun k ρ n' hk hI=>?_) (fun ρ n' hI=>?_) ⟨rfl,⟨none,rfl⟩,fun j hj=>by omega⟩
 ·obtain⟨rfl,⟨x4,rfl⟩,hdone⟩:=hI;have hk':k<ds.length:=by simpa using hk
  have eg:∀s,gH ds (k:Int) s=thr ds[k] s:=fun s=>by
   unfold gH;rw[show((k:Int)).toNat=k by omega,List.getD_eq_getElem?_getD,List.getElem?_eq_getElem hk'];rfl
  rw[List.getElem_map];refine⟨_,rfl,?_⟩;walk_at "e";rw[wU (by rw[List.length_map];omega)];walk_at "e";refine zw (J:=plD) (J':=PyData.bool) (f:=fun s=>decide (thr ds[k] s∈G)) (fun s hs'=>?_) ?_
  ·refine z8M (s:=thr ds[k] s) rfl ?_;walk_at "e";exact z0a H.hi (H.doors _ (List.getElem_mem hk')) (hs s hs') ⟨rfl,rfl,rfl⟩
  ·try walk_at "e"
   simp only[yQ];rw[zu];walk_at "e";rw[List.map_id'];cases hall:(ts.map fun s=>decide (thr ds[k] s∈G)).all id with
   | true=>
    walk_at "e";refine⟨rfl,⟨_,rfl⟩,fun j hj s hs'=>?_⟩;rcases Nat.lt_or_ge j k with z | z
    ·exact hdone j z s hs'
    ·have:j=k:=by omega
     subst this;rw[List.all_map,List.all_eq_true]at hall
     have:=of_decide_eq_true (hall s hs');rw[eg];exact((mG _).mp this).resolve_left (by simp)
   | false=>
    walk_at "e";refine h false ⟨fun z=>(nomatch z),fun⟨h1,_⟩=>?_⟩;rw[<-hall,List.all_map,List.all_eq_true];intro s hs';refine decide_eq_true ((mG _).mpr (.inr ?_));rw[<-eg];exact h1 s hs' k (by omega)
 ·obtain⟨rfl,⟨x4,rfl⟩,hdone⟩:=hI;rw[List.length_map]at hdone;walk_at "e";refine z8M (s:=pl) rfl ?_;walk_at "e";refine⟨rfl,?_⟩;walk_at "e";refine h _ ?_;rw[decide_eq_true_iff,mG];constructor
  ·intro z;refine⟨fun s hs' d hd=>?_,z.resolve_left (by simp)⟩
   have:=hdone d.toNat (by omega) s hs'
   rwa [show((d.toNat:Nat):Int)=d by omega]at this
  ·exact fun z=>.inr z.2
theorem z0u(H:HouseOk m ds)(L:PlOk m pl)(ht:ts.length<1000)(hl:∀s∈ts,s.length<=8)(h:P (.p (.bool (z0w m ds pl ts))) n):Ok (we [.p (ze m ds),.p (plD pl),.p (.list (ts.map plD))]) n P:=by
 unfold we z5G;refine t_fn rfl ?_;walk_at "e";refine wf H L ?_;rw[zZ];walk_at "e";refine z2W ht hl ?_;cases c:ts.all (apB m)with
 | false=>
  walk_at "e";rw[z0v fun B=>?_]at h
  ·exact h
  ·rw[List.all_eq_true.mpr fun s hs=>(z5m (hl s hs)).mpr (B.1 s hs)]at c;cases c
 | true=>
  walk_at "e";have ha:∀s∈ts,StOk m s/\2<=s.length:=fun s hs=>(z5m (hl s hs)).mp (List.all_eq_true.mp c s hs);rw[<-zZ];refine z1b H ht (fun s hs=>(ha s hs).1) fun b hb=>?_
  have:z0w m ds pl ts=b:=by
   rw[Bool.eq_iff_iff,barsB_iff,hb];exact⟨fun B=>B.2,fun z=>⟨ha,z⟩⟩
  rw[this]at h;exact h
end
theorem z62{l:List PyData}{x:PyData}:fIx (.tuple (l++[x])) (.int (-1))=some x:=by
 show atI (l++[x]) (-1)=some x;simp only[atI,ixN,List.length_append,List.length_singleton];rw[if_neg (by omega),if_pos (by omega)];show(l++[x])[(-1+((l.length+1:Nat):Int)).toNat]?=some x;rw[show(-1+((l.length+1:Nat):Int)).toNat=l.length by omega,List.getElem?_append_right (Nat.le_refl _),Nat.sub_self];rfl
theorem z7X(i:Int):fNeg (.int i)=some (.int (-i)):=rfl
theorem z28{α:Type}{m:Mx α}{w w':Wd}{a:α}{P:α->Wd->Prop}(e:m w=.ok a w')(h:P a w'):Ok m w P:=⟨a,w',e,h⟩
theorem t_sl{a:Env'->Mx D}{ml mh:Env'->Mx (Option Int)}{ρ:Env'}{n:Wd}{P:D->Wd->Prop}(h:Ok (a ρ) n fun x n1=>Ok (ml ρ) n1 fun lo n2=>Ok (mh ρ) n2 fun hi n3=>Ok (Mx.opt ((onP (fun y=>fSl y lo hi) x).map D.p)) n3 P):Ok (mSl a ml mh ρ) n P:=by
 unfold mSl;exact t_bind (h.imp fun _ _ q=>t_bind (q.imp fun _ _ q=>t_bind q))
theorem z1x{a:Env'->Mx D}{ρ:Env'}{n:Wd}{P:Option Int->Wd->Prop}(h:Ok (a ρ) n fun x n1=>∃i,x=.p (.int i)/\P (some i) n1):Ok (wZ a ρ) n P:=by
 unfold wZ;exact t_bind (h.imp fun x _ ⟨i,e,q⟩=>by subst e;exact t_some q)
theorem z14{ρ:Env'}{n:Wd}{P:Option Int->Wd->Prop}(h:P none n):Ok (xL ρ) n P:=t_pure h
theorem z5D{α β:Type}{e:Env'->Mx D}{ρ:Env'}{n:Wd}{J:α->PyData}{J2:α->PyData}{J':β->PyData}{P:List PyData->Wd->Prop}(f:α->β){l:List α}(step:∀a∈l,Ok (e (ρ++[some (Sl.val (.p (J a))),some (Sl.val (.p (J2 a)))])) n fun y n2=>y=.p (J' (f a))/\n2=n)(h:P ((l.map f).map J') n):Ok (yF mYes e ρ (l.map fun a=>PyData.tuple [J a,J2 a]) []) n P:=by
 have gen:∀(l:List α) (acc:List PyData),(∀a∈l,Ok (e (ρ++[some (Sl.val (.p (J a))),some (Sl.val (.p (J2 a)))])) n fun y n2=>y=.p (J' (f a))/\n2=n)->P (acc++(l.map f).map J') n->Ok (yF mYes e ρ (l.map fun a=>PyData.tuple [J a,J2 a]) acc) n P:=by
  intro l
  induction l with
  | nil=>intro acc _ h;exact t_pure (by simpa using h)
  | cons a l ih=>
   intro acc hs h;rw[List.map_cons];unfold yF;refine t_bind (t_some ?_);refine t_bind ?_;refine t_pure ?_;rw[if_pos rfl];refine t_bind ((hs a List.mem_cons_self).imp fun y n2 ⟨e1,e2⟩=>?_);subst e1 e2;refine t_bind (t_some ?_);exact ih _ (fun b hb=>hs b (List.mem_cons_of_mem _ hb)) (by simpa using h)
 exact gen l [] step (by simpa using h)
theorem z9Y{ms:Env'->Mx (List D)}{mc:Env'->Mx Bool}{me:Env'->Mx D}{ρ:Env'}{n:Wd}{P:PyData->Wd->Prop}(h:Ok (ms ρ) n fun ds n'=>Ok (Mx.opt ((onPs zipA ds).bind fun l=>if l.length<=lim then some l else none)) n' fun l n2=>Ok (yF mc me ρ l []) n2 fun l n3=>P (.list l) n3):Ok (z1X ms mc me ρ) n P:=by
 unfold z1X;exact t_bind (h.imp fun _ _ q=>t_bind (q.imp fun _ _ q=>t_bind (q.imp fun _ _ q=>t_pure q)))
theorem zCV(x:Int)(l:List Int):PyData.tuple (cutD ((x::l).map PyData.int) (some 1) none)=plD l:=by
 unfold cutD;have e:HT.sIx ((x::l).map PyData.int).length 0 (some 1)=1:=by
  show HT.sIx (((x::l).map PyData.int).length) 0 (some 1)=1;simp[HT.sIx]
 have e2:HT.sIx ((x::l).map PyData.int).length ((x::l).map PyData.int).length none=((x::l).map PyData.int).length:=rfl;rw[e,e2];simp;rw[List.take_of_length_le (by simp)]
theorem z8m(neg:Bool)(s:List Int)(ts:List (List Int)):fIn neg (plD s) (.list (ts.map plD))=some (.bool (if neg then !decide (s∈ts)else decide (s∈ts))):=by
 simp only[fIn];rw[if_pos ⟨by simp only[PyData.canLay0];exact xq s,z3X (J:=plD) (fun r=>by simp only[PyData.canLay0];exact xq r) ts,by
  show PyData.depth (.tuple (s.map PyData.int))<=60
  have:=z17 s;simp only[PyData.depth];omega⟩]
 have:(List.map plD ts).any (fun y=>PyData.eqv y (plD s))=decide (s∈ts):=by
  rw[List.any_map,Bool.eq_iff_iff,List.any_eq_true,decide_eq_true_iff];constructor
  ·rintro⟨q,hq,e⟩;have e:PyData.eqv (tupI q) (tupI s)=true:=e;rw[xQ]at e;exact(of_decide_eq_true e)▸hq
  ·intro h;exact⟨s,h,by show PyData.eqv (tupI s) (tupI s)=true;rw[xQ];exact decide_eq_true rfl⟩
 rw[this]
noncomputable def adjB(s:List Int):Bool:=(s.zip (s.drop 1)).all fun p=>decide (p.1<p.2)
theorem adjB_iff:∀{s:List Int},adjB s=true↔s.Pairwise (·<·)
 | []=>by simp[adjB]
 | [a]=>by simp[adjB]
 | a::b::r=>by
  have ih:=adjB_iff (s:=b::r);have e:adjB (a::b::r)=(decide (a<b) && adjB (b::r)):=rfl;rw[e,Bool.and_eq_true,ih,decide_eq_true_iff,List.pairwise_cons (a:=a) (l:=b::r)];constructor
  ·rintro⟨h1,h2⟩;refine⟨fun x hx=>?_,h2⟩;rcases List.mem_cons.mp hx with rfl | hx
   ·exact h1
   ·have:=(List.pairwise_cons.mp h2).1 x hx;omega
  ·exact fun⟨h1,h2⟩=>⟨h1 b (by simp),h2⟩
theorem z9k{m a z:Int}{u:List Int}(h:(a::(u++[z])).Pairwise (·<·))(ha:0<=a)(hz:z<m)(hl:(a::(u++[z])).length<=8):StOk m (a::(u++[z])):=by
 refine⟨fun x hx=>?_,h,hl⟩;rw[<-List.cons_append]at h hx;obtain⟨h1,h2,h3⟩:=List.pairwise_append.mp h;have hh:=(List.pairwise_cons.mp h1).1;rcases List.mem_append.mp hx with hx | hx
 ·have hxz:=h3 x hx z (by simp);rcases List.mem_cons.mp hx with rfl | hx
  ·omega
  ·have:=hh x hx;omega
 ·rw[List.mem_singleton.mp hx]
  have:=h3 a (by simp) z (by simp);omega
theorem z7a:∀{s:List Int},2<=s.length->∃a u z,s=a::(u++[z])
 | a::b::r,_=>⟨a,(b::r).dropLast,(b::r).getLast (by simp),by rw[List.dropLast_concat_getLast]⟩
section
variable{m:Int}{ds:List (List Int)}{pl:List Int}{ts:List (List Int)}{n:Wd}{P:D->Wd->Prop}
theorem z0N(H:HouseOk m ds)(ht:ts.length<1000)(hl:∀s∈ts,s.length<=8)(h:P (.p (.bool (z0w m ds pl ts))) n):Ok (z1d [.p (ze m ds),.p (plD pl),.p (.list (ts.map plD))]) n P:=by
 have hf:=H.few;have no:∀s∈ts,¬(StOk m s/\2<=s.length/\∀d:Int,0<=d/\d<ds.length->gH ds d s∈ts)->P (.p (.bool false)) n:=fun s hs k=>by
  rw[z0v fun B=>k ⟨(B.1 s hs).1,(B.1 s hs).2,B.2.1 s hs⟩]at h;exact h
 unfold z1d z89;refine t_fn rfl ?_;rw[zZ];walk_at "e";rw[wU (by rw[List.length_map];omega)];walk_at "e";refine w5 (fun k ρ n'=>n'=n/\(∃x3 x4:Option Sl,ρ=[some (Sl.val (.p (ze m ds))),some (Sl.val (.p (plD pl))),some (Sl.val (.p (.list (ts.map plD)))),x3,x4])/\∀s∈ts.take k,StOk m s/\2<=s.length/\∀d:Int,0<=d/\d<ds.length->gH ds d s∈ts) (fun k ρ n' hk hI=>?_) (fun ρ n' hI=>?_) ⟨rfl,⟨none,none,rfl⟩,fun s hs=>by simp at hs⟩
 ·obtain⟨rfl,⟨x3,x4,rfl⟩,hdone⟩:=hI;have hk':k<ts.length:=by simpa using hk
  rw[List.getElem_map];have hs:=List.getElem_mem hk';have hsl:=hl _ hs;have tk:∀s,s∈ts.take (k+1)↔s∈ts.take k\/s=ts[k]:=fun s=>by
   rw[List.take_add_one,List.getElem?_eq_getElem hk',Option.toList_some,List.mem_append,List.mem_singleton]
  generalize ts[k]=s at *;refine⟨_,rfl,?_⟩;rw[zZ];walk_at "e";rw[List.length_map];by_cases c2:2<=s.length
  ·rw[decide_eq_false (show ¬(s.length:Int)<2 by omega)];walk_at "e";obtain⟨a,u,z,rfl⟩:=z7a c2;rw[show fIx (plD (a::(u++[z]))) (.int 0)=some (.int a) from z9z _ _];walk_at "e";by_cases c3:0<=a
   ·rw[decide_eq_true c3];walk_at "e";rw[z7X];walk_at "e";rw[show fIx (plD (a::(u++[z]))) (.int (-1))=some (.int z) from by
     show fIx (.tuple ((a::(u++[z])).map PyData.int)) (.int (-1))=_;rw[<-List.cons_append,List.map_append];exact z62]
    walk_at "e";by_cases c4:z<m
    ·rw[decide_eq_true c4];walk_at "e";refine z9Y ?_;walk_at "e";refine t_sl ?_;walk_at "e";refine z1x ?_;walk_at "e";refine⟨_,rfl,?_⟩;refine z14 ?_;walk_at "e";rw[show fSl (plD (a::(u++[z]))) (some 1) none=some (plD (u++[z])) from by
      show some (PyData.tuple (cutD ((a::(u++[z])).map PyData.int) (some 1) none))=_;rw[zCV]]
     walk_at "e";rw[show onPs zipA [.p (plD (a::(u++[z]))),.p (plD (u++[z]))]=some (((a::(u++[z])).zip (u++[z])).map fun p=>PyData.tuple [.int p.1,.int p.2]) from by
      show some (List.map (fun p=>PyData.tuple [p.1,p.2]) (((a::(u++[z])).map PyData.int).zip ((u++[z]).map PyData.int)))=_;rw[List.zip_map,List.map_map];rfl]
     rw[Option.bind_some,if_pos (by unfold lim;simp at hsl |-;omega)];walk_at "e";refine z5D (J:=fun p:Int×Int=>.int p.1) (J2:=fun p:Int×Int=>.int p.2) (J':=PyData.bool) (f:=fun p:Int×Int=>decide (p.1<p.2)) (fun p hp=>?_) ?_
     ·walk_at "e";exact⟨rfl,rfl⟩
     walk_at "e";simp only[yQ];rw[zu];walk_at "e";rw[List.map_id',show((((a::(u++[z])).zip (u++[z])).map fun p:Int×Int=>decide (p.1<p.2)).all id)=adjB (a::(u++[z])) by rw[List.all_map];rfl];cases c5:adjB (a::(u++[z]))with
     | false=>
      walk_at "e";exact no _ hs fun S=>by rw[adjB_iff.mpr S.1.srt]at c5;cases c5
     | true=>
      walk_at "e";have S:=z9k (adjB_iff.mp c5) c3 c4 hsl;rw[List.length_map,y7 (by omega),y3 (ds.length:Int) (by omega)];walk_at "e";refine w5 (fun j ρ n2=>n2=n'/\(∃x4:Option Sl,ρ=[some (Sl.val (.p (ze m ds))),some (Sl.val (.p (plD pl))),some (Sl.val (.p (.list (ts.map plD)))),some (Sl.val (.p (plD (a::(u++[z]))))),x4])/\∀i:Nat,i<j->gH ds (i:Int) (a::(u++[z]))∈ts) (fun j ρ n2 hj hI=>?_) (fun ρ n2 hI=>?_) ⟨rfl,⟨x4,rfl⟩,fun i hi=>by omega⟩
      ·obtain⟨rfl,⟨x4,rfl⟩,hd⟩:=hI;have hj':j<ds.length:=by simpa[zR]using hj
       have ek:(upto (ds.length:Int).toNat)[j]'(by rw[zR];omega)=(j:Int):=by simp[upto]
       rw[List.getElem_map,ek];refine⟨_,rfl,?_⟩;walk_at "e";refine z2F H S (by omega) (by omega) ?_;walk_at "e";rw[z8m];walk_at "e";by_cases c6:gH ds (j:Int) (a::(u++[z]))∈ts
       ·rw[decide_eq_true c6];walk_at "e";refine⟨rfl,⟨_,rfl⟩,fun i hi=>?_⟩;rcases Nat.lt_or_ge i j with q | q
        ·exact hd i q
        ·have:i=j:=by omega
         subst this;exact c6
       ·rw[decide_eq_false c6];walk_at "e";exact no _ hs fun S=>c6 (S.2.2 j (by omega))
      ·obtain⟨rfl,⟨x4,rfl⟩,hd⟩:=hI;rw[List.length_map,zR]at hd;refine⟨rfl,⟨_,_,rfl⟩,fun s' hs'=>?_⟩;rcases(tk s').mp hs' with q | rfl
       ·exact hdone s' q
       ·refine⟨S,c2,fun d hd2=>?_⟩
        have:=hd d.toNat (by omega)
        rwa [show((d.toNat:Nat):Int)=d by omega]at this
    ·rw[decide_eq_false c4];walk_at "e";exact no _ hs fun S=>c4 (S.1.inr z (by simp)).2
   ·rw[decide_eq_false c3];walk_at "e";exact no _ hs fun S=>c3 (S.1.inr a (by simp)).1
  ·rw[decide_eq_true (show(s.length:Int)<2 by omega)];walk_at "e";exact no _ hs fun S=>c2 S.2.1
 ·obtain⟨rfl,⟨x3,x4,rfl⟩,hdone⟩:=hI;rw[List.length_map,List.take_length]at hdone;walk_at "e";rw[z8m];walk_at "e"
  have:z0w m ds pl ts=decide (pl∈ts):=by
   rw[Bool.eq_iff_iff,barsB_iff,decide_eq_true_iff];exact⟨fun B=>B.2.2,fun z=>⟨fun s hs=>⟨(hdone s hs).1,(hdone s hs).2.1⟩,fun s hs=>(hdone s hs).2.2,z⟩⟩
  rw[this]at h;exact h
end
section
variable{t:Adr}{m:Int}{ds:List (List Int)}{pl:List Int}{ts:List (List Int)}{n:Wd}{P:D->Wd->Prop}
theorem z7n(h6:m<=6)(H:HouseOk m ds)(L:PlOk m pl)(h0:gth ds pl=true->P (.p .none) n)(h1:∀us:List (List Int),gth ds pl=false->Bars m ds pl us->(us.Pairwise fun a b=>HT.lexLt b a=false)->us.Nodup->us.length<=63->P (.p (.list (us.map plD))) n):Ok (z4w t [.p (ze m ds),.p (plD pl)]) n P:=by
 unfold z4w z7p;refine t_fn rfl ?_;walk_at "e";refine wf H L ?_;walk_at "e";unfold z7W z7Q;refine t_fn rfl ?_;walk_at "e";refine z2l H L fun l R=>?_;have F:=R.1;have hfew:=F.few h6;walk_at "e";obtain⟨us,e1,e2,e3⟩:=ud (ts:=l.map (·.1)) (fun s hs=>by
  obtain⟨q,hq,rfl⟩:=List.mem_map.mp hs;exact(R.1.st q hq).2) (by rw[List.length_map];omega)
 rw[show yg [.dict (gP l)]=yg [.list ((l.map (·.1)).map tupI)] from by
  show(if y6 ((gP l).map (·.1))=true then some (PyData.list (xI keyI ((gP l).map (·.1))))else none)=wG [.list ((l.map (·.1)).map tupI)];rw[zA7];rfl,e1]
 walk_at "e";have hul:us.length<=63:=by rw[e2.length_eq,List.length_map];exact hfew
 rw[wU (by rw[List.length_map];omega)];walk_at "e";refine zw (J:=tupI) (J':=PyData.bool) (f:=one) (fun s hs=>?_) ?_
 ·walk_at "e";rw[List.length_map];exact⟨by unfold one;rw[show decide ((s.length:Int)=1)=decide (s.length=1) from decide_eq_decide.mpr (by omega)],rfl⟩
 walk_at "e";simp only[yQ];rw[show((us.map one).map PyData.bool)=(us.map one).map (fun b=>PyData.bool (id b)) from rfl,zu];walk_at "e";rw[List.map_id,List.any_map];cases hany:us.any (id∘one)with
 | true=>
  walk_at "e";refine h0 ?_;obtain⟨s,hs,e⟩:=List.any_eq_true.mp hany;obtain⟨q,hq,rfl⟩:=List.mem_map.mp (e2.mem_iff.mp hs);exact gth_iff.mpr ⟨q.2,(F.least q hq).doors,by rw[(F.least q hq).lead];exact of_decide_eq_true e⟩
 | false=>
  walk_at "e";have hg:gth ds pl=false:=by
   cases e:gth ds pl with
   | false=>rfl
   | true=>
    obtain⟨r,hr,hl⟩:=gth_iff.mp e;obtain⟨q,hq,eq⟩:=F.all r hr
    have:=List.any_eq_false.mp hany q.1 (e2.mem_iff.mpr (List.mem_map.mpr ⟨q,hq,rfl⟩));exact absurd (show(id∘one) q.1=true from decide_eq_true (by rw[eq];exact hl)) this
  exact h1 us hg (z66 H F e2 hg) e3 (e2.nodup_iff.mpr F.nd) hul
end
theorem z0o{ns:List Int}{l:List PyData}{n:Nat}{os:List Ob}{P:D->Wd->Prop}(hn:n<5000)(h0:0<l.length)(hl:l.length<1000)(h:∀x∈l,P (.p x) ⟨n+1,os⟩):Ok (uD [.scr ns,.town,.p (.list l)]) ⟨n,os⟩ P:=by
 unfold uD z7A;refine t_fn rfl ?_;walk_at "e";refine yW (by omega) (by omega) fun q q0 q1=>?_;walk_at "e";have hq:q.toNat<l.length:=by omega
 refine t_map (x:=l[q.toNat]) (z02 q0 (List.getElem?_eq_getElem hq)) ?_;exact h _ (List.getElem_mem hq)
theorem z6X(neg:Bool)(l r:List (List Int)):fEq neg (.list (l.map plD)) (.list (r.map plD))=some (.bool (if neg then !decide (l=r)else decide (l=r))):=by
 have lay:∀l:List (List Int),PyData.canLay0 (.list (l.map plD))=true:=fun l=>by
  simp only[PyData.canLay0];exact z3X (J:=plD) (fun r=>by simp only[PyData.canLay0];exact xq r) l
 have dep:∀l:List (List Int),PyData.depthAll (l.map plD)<=20:=fun l=>z90 (J:=plD) (fun r=>by
  show PyData.depth (.tuple (r.map PyData.int))<=15;simp only[PyData.depth];have:=z17 r;omega) l
 unfold fEq;rw[if_pos ⟨lay l,lay r,by have:=dep l;have:=dep r;simp only[PyData.depth];omega⟩]
 have:PyData.eqv (.list (l.map plD)) (.list (r.map plD))=decide (l=r):=by
  simp only[PyData.eqv];exact z04 l r
 rw[this]
theorem z1u{us:List (List Int)}(hne:∀s∈us,s≠[])(hl:us.length<64)(so:us.Pairwise fun a b=>HT.lexLt b a=false)(nd:us.Nodup):xa (.list (us.map plD))=some (.list (us.map plD)):=by
 have hall:(us.map plD).all xW=true:=List.all_eq_true.mpr fun d hd=>by
  obtain⟨s,hs,rfl⟩:=List.mem_map.mp hd;show((zn (s.map PyData.int)).isSome && !(s.map PyData.int).isEmpty)=true;rw[zy]
  have:=hne s hs;cases s with
  | nil=>exact absurd rfl this
  | cons a r=>rfl
 show(if ((us.map plD).all xW && decide ((us.map plD).length<64))=true then some (PyData.list (xI keyI (ddp (us.map plD))))else none)=_;rw[if_pos (by rw[hall,Bool.true_and];exact decide_eq_true (by simpa using hl))];have mem:∀d,d∈ddp (us.map plD)↔d∈us.map plD:=z2e (nss:=us);have ndd:(ddp (us.map plD)).Nodup:=z8z (nss:=us);have ndp:(us.map plD).Nodup:=List.pairwise_map.mpr (nd.imp fun{a b} hab z=>hab (z8Y z));have per:(us.map plD).Perm (xI keyI (ddp (us.map plD))):=((List.perm_ext_iff_of_nodup ndp ndd).mpr fun d=>(mem d).symm).trans (yP _).symm;have s1:(us.map plD).Pairwise (fun a b=>HT.lexLt (keyI b) (keyI a)=false):=List.pairwise_map.mpr (so.imp fun{a b} hab=>by
  rw[show keyI (plD b)=b from xY b,show keyI (plD a)=a from xY a];exact hab)
 have e3:=yf per s1 (yO _) fun a ha b hb hab=>by
  obtain⟨x,_,rfl⟩:=List.mem_map.mp ha;obtain⟨y,_,rfl⟩:=List.mem_map.mp hb;rw[show keyI (plD x)=x from xY x,show keyI (plD y)=y from xY y]at hab;rw[hab]
 rw[<-e3]
theorem z3V(a b:Bool):fEq true (.bool a) (.bool b)=some (.bool (a != b)):=by cases a<;>cases b<;>rfl
theorem zC7(a b:Bool):fEq false (.bool a) (.bool b)=some (.bool (a == b)):=by cases a<;>cases b<;>rfl
noncomputable def prsT(m k:Nat):List (List Int):=(List.range k).flatMap fun a=>(List.range (m - (a+1))).map fun(i:Nat)=>[(a:Int),(a:Int)+1+(i:Int)]
theorem z1a(m k:Nat):prsT m (k+1)=prsT m k++(List.range (m - (k+1))).map fun(i:Nat)=>[(k:Int),(k:Int)+1+(i:Int)]:=by
 unfold prsT;rw[List.range_succ,List.flatMap_append];simp
theorem z38:∀{m k:Nat},m<=6->(prsT m k).length<=6*k
 | m,0,_=>by simp[prsT]
 | m,k+1,h=>by
  rw[z1a,List.length_append,List.length_map,List.length_range]
  have:=z38 (k:=k) h;omega
theorem z1R{m:Int}{ds:List (List Int)}{x0 x1 x3 x5 x6 x7 x8 x9 x10 x11 x12:Option Sl}{n:Wd}{P:Out->Wd->Prop}(h1:1<=m)(h6:m<=6)(h:∀y5,P (.nx [x0,x1,some (Sl.val (.p (.tuple [.int m,.tuple (ds.map plD)]))),x3,some (Sl.own (.list ((prs m.toNat).map plD))),y5,x6,x7,x8,x9,x10,x11,x12]) n):
  Ok (sFor (mRng yl (zB (mBin fIx (mVar 2) (mC (.int 0))) mNil)) (τ1 5) (sExt 4 (mP (yS (mRng z45 (zB (mBin fAdd (mVar 5) (mC (.int 1))) (zB (mBin fIx (mVar 2) (mC (.int 0))) mNil))) mYes (mP (mSeq PyData.tuple (zB (mVal 5) (zB (mVal 13) mNil))))))) [x0,x1,some (Sl.val (.p (.tuple [.int m,.tuple (ds.map plD)]))),x3,some (Sl.own (.list [])),x5,x6,x7,x8,x9,x10,x11,x12]) n P:=by
 walk_at "e";rw[y7 (by omega),y3 m (by omega)];walk_at "e";refine w5 (fun k ρ n'=>n'=n/\∃y5:Option Sl,ρ=[x0,x1,some (Sl.val (.p (.tuple [.int m,.tuple (ds.map plD)]))),x3,some (Sl.own (.list ((prsT m.toNat k).map plD))),y5,x6,x7,x8,x9,x10,x11,x12]) (fun k ρ n' hk hI=>?_) (fun ρ n' hI=>?_) ⟨rfl,x5,rfl⟩
 ·obtain⟨rfl,y5,rfl⟩:=hI;have hk':k<m.toNat:=by simpa[zR]using hk
  have ek:(upto m.toNat)[k]'(by rw[zR];omega)=(k:Int):=by simp[upto]
  rw[List.getElem_map,ek];refine⟨_,rfl,?_⟩;refine zB2 rfl ?_;walk_at "e";rw[z8H ⟨by omega,by omega,by unfold lim;omega⟩];walk_at "e";rw[show rngD ((k:Int)+1) m=(List.range (m.toNat - (k+1))).map fun(i:Nat)=>PyData.int ((k:Int)+1+(i:Int)) from by
   unfold rngD;rw[show(m - ((k:Int)+1)).toNat=m.toNat - (k+1) by omega]]
  refine zw (J:=fun(i:Nat)=>PyData.int ((k:Int)+1+(i:Int))) (J':=plD) (f:=fun(i:Nat)=>[(k:Int),(k:Int)+1+(i:Int)]) (fun i hi=>?_) ?_
  ·walk_at "e";exact⟨rfl,rfl⟩
  walk_at "e"
  have:=z38 (m:=m.toNat) (k:=k) (by omega);refine⟨_,rfl,by simp;omega,rfl,some (Sl.val (.p (.int (k:Int)))),?_⟩;rw[z1a,List.map_append]
 ·obtain⟨rfl,y5,rfl⟩:=hI;rw[List.length_map,zR];exact h _
noncomputable def lawD:Env'->Mx Out:=(sSeq (sSet 12 (mP (mSeq PyData.list (zB (mC .none) (zB (mP (mSeq PyData.tuple mNil)) (zB (mP (mSeq PyData.list mNil)) (zB (mP (mSeq PyData.list (zB (mC .none) mNil))) (zB (mP (mSeq PyData.list (zB (mP (mSeq PyData.tuple (zB (mC (.int 0)) mNil))) mNil))) (zB (mP (mSeq PyData.list (zB (mP (mSeq PyData.list (zB (mC (.int 0)) (zB (mC (.int 1)) mNil)))) mNil))) (zB (mP (mSeq PyData.list (zB (mP (mSeq PyData.tuple (zB (mC (.int 0)) (zB (mBin fIx (mVar 2) (mC (.int 0))) mNil)))) mNil))) (zB (mP (mSeq PyData.list (zB (mP (mSeq PyData.tuple (zB (mC (.bool true)) (zB (mC (.int 2)) mNil)))) mNil))) (zB (mP (mSeq PyData.list (zB (mP (mSeq PyData.tuple (zB (mC (.str "0")) (zB (mC (.int 1)) mNil)))) mNil))) (zB (mP (mSeq PyData.list (zB (mP (mSeq PyData.tuple (zB (mUn fNeg (mC (.int 1))) (zB (mC (.int 0)) mNil)))) mNil))) (zB (mC (.str "x")) mNil))))))))))))))
 (sRet (mBin (fEq false) (zQ we (zB (mVal 2) (zB (mVal 3) (zB (zQ uD (zB (mVal 0) (zB (mVal 1) (zB (mVal 12) mNil)))) mNil)))) (mC (.bool false)))))
noncomputable def lawE:Env'->Mx Out:=(sSeq (sSet 11 (zQ we (zB (mVal 2) (zB (mVal 3) (zB (mVal 6) mNil)))))
 (sSeq (sIf (mOrT (zq (mBin (fEq true) (mVar 11) (zQ z1d (zB (mVal 2) (zB (mVal 3) (zB (mVal 6) mNil)))))) (mOrT (xm (mTru (mUn (fIsi "bool") (mVar 11)))) (wv (mTru (mVar 11)) (xm (mTru (mVar 7)))))) (sRet (mC (.bool false))) sNil)
 lawD))
noncomputable def lawC:Env'->Mx Out:=(sSeq (sFor (mRng yl (zB (zQ yh (zB (mVal 0) (zB (mVal 1) (zB (mC (.int 3)) mNil)))) mNil)) (τ1 8) (sSeq (sSet 9 (zQ yh (zB (mVal 0) (zB (mVal 1) (zB (mBin fAdd (zV fLen (zB (mVar 6) mNil)) (mC (.int 1))) mNil)))))
 (sSeq (sSet 10 (mP (mSeq PyData.list (zB (mP (mSeq PyData.list (zB (zQ uD (zB (mVal 0) (zB (mVal 1) (zB (mBin fAdd (mVar 4) (mP (mSeq PyData.list (zB (mP (mSeq PyData.tuple (zB (mC (.int 0)) (zB (mC (.int 0)) mNil)))) (zB (mP (mSeq PyData.tuple (zB (mC (.int 1)) (zB (mC (.int 0)) mNil)))) (zB (mVal 3) mNil)))))) mNil)))) mNil))) (zB (mP (mSeq PyData.list mNil)) (zB (mBin fMul (mSl (mVar 6) (wZ (mVar 9)) (wZ (mBin fAdd (mVar 9) (mC (.int 1))))) (mC (.int 2))) (zB (mP (mSeq PyData.list mNil)) mNil)))))))
 (sSeq (sSet 6 (mBin fAdd (mBin fAdd (mSl (mVar 6) xL (wZ (mVar 9))) (zQ uD (zB (mVal 0) (zB (mVal 1) (zB (mVal 10) mNil))))) (mSl (mVar 6) (wZ (mBin fAdd (mVar 9) (mC (.int 1)))) xL)))
 (sSet 6 (zQ uD (zB (mVal 0) (zB (mVal 1) (zB (mP (mSeq PyData.list (zB (mVal 6) (zB (mUn fRev (mVar 6)) mNil)))) mNil)))))))))
 lawE)
noncomputable def lawB:Env'->Mx Out:=(sSeq (sIf (mOrT (zq (mBin (fIs false) (mVar 6) (mC .none))) (zq (mBin (fEq false) (zQ yh (zB (mVal 0) (zB (mVal 1) (zB (mC (.int 3)) mNil)))) (mC (.int 0))))) (sSet 6 (mP (yr (zQ z12 (zB (mVal 2) (zB (mVal 3) mNil))) (wv (zq (mBin (fCmp fun i j=>decide (j<i)) (zQ yh (zB (mVal 0) (zB (mVal 1) (zB (mC (.int 6)) mNil)))) (mC (.int 0)))) (zq (mBin (fCmp fun i j=>decide (j<i)) (zV fLen (zB (mVar 13) mNil)) (mC (.int 1))))) (mVal 13)))) sNil)
 lawC)
noncomputable def badL(m:Int):List PyData:=[.none,.tuple [],.list [],.list [.none],.list [.tuple [.int 0]],.list [.list [.int 0,.int 1]],.list [.tuple [.int 0,.int m]],.list [.tuple [.bool true,.int 2]],.list [.tuple [.str "0",.int 1]],.list [.tuple [.int (-1),.int 0]],.str "x"]
section
variable{m:Int}{ds:List (List Int)}{pl:List Int}{ts:List (List Int)}{n:Wd}{P:D->Wd->Prop}
theorem xR{x:PyData}(H:HouseOk m ds)(L:PlOk m pl)(hx:Ok (z44 [.p x,.p (.int m)]) n fun d n'=>d=.p (.bool false)/\n'=n)(h:P (.p (.bool false)) n):Ok (we [.p (ze m ds),.p (plD pl),.p x]) n P:=by
 unfold we z5G;refine t_fn rfl ?_;walk_at "e";refine wf H L ?_;rw[zZ];walk_at "e";refine hx.imp fun d n' ⟨e1,e2⟩=>?_;subst e1 e2;walk_at "e";exact h
theorem zAe(H:HouseOk m ds)(L:PlOk m pl){x:PyData}(hx:x∈badL m)(h:P (.p (.bool false)) n):Ok (we [.p (ze m ds),.p (plD pl),.p x]) n P:=by
 have nb:∀ts:List (List Int),¬Bars m ds pl ts->ts.length<1000->(∀s∈ts,s.length<=8)->Ok (we [.p (ze m ds),.p (plD pl),.p (.list (ts.map plD))]) n P:=fun ts hb ht hl=>z0u H L ht hl (by rw[z0v hb];exact h);unfold badL at hx;simp only[List.mem_cons,List.not_mem_nil,or_false]at hx;rcases hx with rfl | rfl | rfl | rfl | rfl | rfl | rfl | rfl | rfl | rfl | rfl
 ·exact xR H L (z28 (a:=.p (.bool false)) rfl ⟨rfl,rfl⟩) h
 ·exact xR H L (z28 (a:=.p (.bool false)) rfl ⟨rfl,rfl⟩) h
 ·exact nb [] (fun B=>by have:=B.2.2;simp at this) (by simp) (by simp)
 ·exact xR H L (z28 (a:=.p (.bool false)) rfl ⟨rfl,rfl⟩) h
 ·exact nb [[0]] (fun B=>by have:=(B.1 [0] (by simp)).2;simp at this) (by simp) (by simp)
 ·exact xR H L (z28 (a:=.p (.bool false)) rfl ⟨rfl,rfl⟩) h
 ·exact nb [[0,m]] (fun B=>by have:=(B.1 [0,m] (by simp)).1.inr m (by simp);omega) (by simp) (by simp)
 ·exact xR H L (z28 (a:=.p (.bool false)) rfl ⟨rfl,rfl⟩) h
 ·exact xR H L (z28 (a:=.p (.bool false)) rfl ⟨rfl,rfl⟩) h
 ·exact nb [[-1,0]] (fun B=>by have:=(B.1 [-1,0] (by simp)).1.inr (-1) (by simp);omega) (by simp) (by simp)
 ·exact xR H L (z28 (a:=.p (.bool false)) rfl ⟨rfl,rfl⟩) h
theorem z6H{ns:List Int}{x4 x5 x6 x7 x8 x9 x10 x11 x12:Option Sl}{k:Nat}(H:HouseOk m ds)(L:PlOk m pl)(hk:k<1000):
  Ok (lawD [some (Sl.val (.scr ns)),some (Sl.val .town),some (Sl.val (.p (ze m ds))),some (Sl.val (.p (plD pl))),x4,x5,x6,x7,x8,x9,x10,x11,x12]) ⟨k,[]⟩ fun o _=>o=.rt (.p (.bool true)):=by
 unfold lawD;refine t_seq (t_set (z28 (a:=.p (.list (badL m))) rfl (t_nx ?_)));refine t_sret (t_bin (t_call (t_cons (t_val rfl (t_cons (t_val rfl (t_cons (t_call (t_cons (t_val rfl (t_cons (t_val rfl (t_cons (t_val rfl (t_nil ?_)))))))))))))));refine z0o (by omega) (by simp[badL]) (by simp[badL]) fun x hx=>t_nil ?_;refine zAe H L hx ?_;refine t_c (t_p2 (t_map (zC7 _ _) ?_));rfl
theorem zA2{ns:List Int}{x4 x5 x8 x9 x10 x11 x12:Option Sl}{k:Nat}{b:Bool}(H:HouseOk m ds)(L:PlOk m pl)(hk:k<1000)(ht:ts.length<1000)(hl:∀s∈ts,s.length<=8)(hb:b=!gth ds pl):
  Ok (lawE [some (Sl.val (.scr ns)),some (Sl.val .town),some (Sl.val (.p (ze m ds))),some (Sl.val (.p (plD pl))),x4,x5,some (Sl.val (.p (.list (ts.map plD)))),some (Sl.val (.p (.bool b))),x8,x9,x10,x11,x12]) ⟨k,[]⟩ fun o _=>o=.rt (.p (.bool true)):=by
 unfold lawE;refine t_seq (t_set (t_call (t_cons (t_val rfl (t_cons (t_val rfl (t_cons (t_val rfl (t_nil ?_)))))))));refine z0u H L ht hl (t_nx ?_);refine t_seq (t_sif (t_or (t_test (t_bin (t_var rfl (t_call (t_cons (t_val rfl (t_cons (t_val rfl (t_cons (t_val rfl (t_nil ?_)))))))))))));refine z0N H ht hl ?_;refine t_p2 (t_map (z3V _ _) (t_onb ?_));rw[bne_self_eq_false];refine t_itf (t_or (t_not (t_tru (t_un (t_var rfl (t_p1 (t_map (x:=.bool true) rfl (t_trb ?_))))))));refine t_itf (t_and (t_tru (t_var rfl (t_trb ?_))));cases hB:z0w m ds pl ts with
 | false=>
  refine t_itf (t_pure (t_itf (t_snil (t_nx ?_))));exact z6H H L hk
 | true=>
  refine t_itt (t_not (t_tru (t_var rfl (t_trb ?_))));rw[hb,(barsB_iff.mp hB).none];refine t_itf (t_snil (t_nx ?_));exact z6H H L hk
theorem z8l(l:List (List Int))(lo hi:Option Int):∃l':List (List Int),fSl (.list (l.map plD)) lo hi=some (.list (l'.map plD))/\(∀s∈l',s∈l)/\l'.length<=l.length:=by
 refine⟨(l.drop (HT.sIx l.length 0 lo)).take (HT.sIx l.length l.length hi - HT.sIx l.length 0 lo),?_,fun s hs=>List.mem_of_mem_drop (List.mem_of_mem_take hs),?_⟩
 ·show some (PyData.list (cutD (l.map plD) lo hi))=_;unfold cutD;rw[List.length_map,List.map_take,List.map_drop]
 ·rw[List.length_take,List.length_drop];omega
end
section
variable{m:Int}{ds:List (List Int)}{pl:List Int}{ts:List (List Int)}{n:Wd}{P:D->Wd->Prop}
theorem z6L{a b:List (List Int)}(h:a.length+b.length<10000):fAdd (.list (a.map plD)) (.list (b.map plD))=some (.list ((a++b).map plD)):=z4t a b h
theorem zAc{a:List (List Int)}(h:a.length<1000):fMul (.list (a.map plD)) (.int 2)=some (.list ((a++a).map plD)):=by
 show(if (0:Int)<=2/\(2:Int)<1000000/\(a.map plD).length*(2:Int).toNat<=lim then some (PyData.list (List.replicate (2:Int).toNat (a.map plD)).flatten)else none)=_;rw[if_pos ⟨by decide,by decide,by unfold lim;rw[List.length_map];show a.length*2<=_;omega⟩];rw[show(2:Int).toNat=2 from rfl];simp[List.replicate_succ]
theorem z3h(h6:m<=6)(h0:0<=m):(prs m.toNat).length<=63/\∀s∈prs m.toNat,s.length<=8:=by
 constructor
 ·rw[(uR m.toNat (by omega)).length_eq]
  have:=z3i (k:=m.toNat) (by omega)
  have:=List.length_filter_le (fun s:List Int=>decide (s.length=2)) (sts m.toNat);omega
 ·intro s hs
  have:=(z2N h0 h6 hs).2;omega
theorem z9p(l:List (List Int)){i:Int}(hi:0<=i):∃l':List (List Int),fSl (.list (l.map plD)) (some i) (some (i+1))=some (.list (l'.map plD))/\(∀s∈l',s∈l)/\l'.length<=1:=by
 refine⟨(l.drop (HT.sIx l.length 0 (some i))).take (HT.sIx l.length l.length (some (i+1)) - HT.sIx l.length 0 (some i)),?_,fun s hs=>List.mem_of_mem_drop (List.mem_of_mem_take hs),?_⟩
 ·show some (PyData.list (cutD (l.map plD) (some i) (some (i+1))))=_;unfold cutD;rw[List.length_map,List.map_take,List.map_drop]
 ·rw[List.length_take]
  have:HT.sIx l.length l.length (some (i+1)) - HT.sIx l.length 0 (some i)<=1:=by
   simp only[HT.sIx]
   repeat' split
   all_goals omega
  omega
theorem z2r{ns:List Int}{x5 x8 x9 x10 x11 x12:Option Sl}{k:Nat}{b:Bool}(h6:m<=6)(H:HouseOk m ds)(L:PlOk m pl)(hk:k<200)(ht:ts.length<=63)(hl:∀s∈ts,s.length<=8)(hb:b=!gth ds pl):
  Ok (lawC [some (Sl.val (.scr ns)),some (Sl.val .town),some (Sl.val (.p (ze m ds))),some (Sl.val (.p (plD pl))),some (Sl.own (.list ((prs m.toNat).map plD))),x5,some (Sl.val (.p (.list (ts.map plD)))),some (Sl.val (.p (.bool b))),x8,x9,x10,x11,x12]) ⟨k,[]⟩ fun o _=>o=.rt (.p (.bool true)):=by
 have hlo:=H.lo;obtain⟨hp1,hp2⟩:=z3h (m:=m) h6 (by omega);have hpl:=L.len;unfold lawC;refine t_seq (t_for (t_rng (t_cons (t_call (t_cons (t_val rfl (t_cons (t_val rfl (t_cons (t_c (t_nil ?_)))))))))));refine yW (by omega) (by decide) fun times t0 t1=>t_nil ?_;rw[show Mx.opt (onPs yl [D.p (.int times)])=Mx.opt (yl [.int times]) from rfl,y7 (by omega),y3 times (by omega)];refine t_some ?_;refine w5 (fun i ρ w=>i<=3/\∃(us:List (List Int)) (n':Nat) (y8 y9 y10:Option Sl),us.length+2<=65*2 ^ i/\(∀s∈us,s.length<=8)/\n'<=k+1+4*i/\w=⟨n',[]⟩/\ρ=[some (Sl.val (.scr ns)),some (Sl.val .town),some (Sl.val (.p (ze m ds))),some (Sl.val (.p (plD pl))),some (Sl.own (.list ((prs m.toNat).map plD))),x5,some (Sl.val (.p (.list (us.map plD)))),some (Sl.val (.p (.bool b))),y8,y9,y10,x11,x12]) (fun i ρ w hi hI=>?_) (fun ρ w hI=>?_) ⟨by omega,ts,k+1,x8,x9,x10,by simp;omega,hl,by omega,rfl,rfl⟩
 ·obtain⟨hi3,us,n',y8,y9,y10,hu,hul,hn',rfl,rfl⟩:=hI;have hi':i<times.toNat:=by simpa[zR]using hi
  have hpw:65*2 ^ i<=260:=by
   have:i=0\/i=1:=by omega
   rcases this with rfl | rfl<;>decide
  have hpw2:65*2 ^ (i+1)=65*2 ^ i*2:=by rw[Nat.pow_succ];omega
  rw[List.getElem_map];refine⟨_,rfl,?_⟩;refine t_seq (t_set (t_call (t_cons (t_val rfl (t_cons (t_val rfl (t_cons (t_bin (t_callB (t_cons (t_var rfl (t_nil (t_b1 (t_map (fLen_l _) (t_c (t_p2 (t_map (fAdd_int _ _) (t_nil ?_))))))))))))))))));rw[List.length_map];refine yW (by omega) (by omega) fun at_ a0 a1=>t_nx ?_;refine t_seq (t_set (t_mp (t_mseq (t_cons (t_mp (t_mseq (t_cons (t_call (t_cons (t_val rfl (t_cons (t_val rfl (t_cons (t_bin (t_var rfl (t_mp (t_mseq (t_cons (t_mp (t_mseq (t_cons (t_c (t_cons (t_c (t_nil (t_s2 ?_))))))))))))))))))))))))));refine t_cons (t_mp (t_mseq (t_cons (t_c (t_cons (t_c (t_nil (t_s2 ?_))))))));refine t_cons (t_val rfl (t_nil (t_s3 ?_)));refine t_p2 (t_map (z6L (a:=prs m.toNat) (b:=[[0,0],[1,0],pl]) (by simp;omega)) (t_nil ?_));refine z0o (by omega) (by simp) (by simp;omega) fun x hx=>t_nil (t_s1 ?_);obtain⟨px,hpx,rfl⟩:=List.mem_map.mp hx;have hpx8:px.length<=8:=by
   rcases List.mem_append.mp hpx with h | h
   ·exact hp2 px h
   ·simp only[List.mem_cons,List.not_mem_nil,or_false]at h;rcases h with rfl | rfl | rfl
    ·decide
    ·decide
    ·exact hpl
  refine t_cons (t_mp (t_mseq (t_nil (t_s0 ?_))));refine t_cons (t_bin (t_sl (t_var rfl (z1x (t_var rfl ⟨_,rfl,z1x (t_bin (t_var rfl (t_c (t_p2 (t_map (fAdd_int _ _) ⟨_,rfl,?_⟩)))))⟩)))));obtain⟨c1,e1,m1,l1⟩:=z9p us a0;refine t_p1 (t_map e1 (t_c (t_p2 (t_map (zAc (by omega)) ?_))));refine t_cons (t_mp (t_mseq (t_nil (t_s0 (t_nil (t_s4 (t_nx ?_)))))));refine t_seq (t_set (t_bin (t_bin (t_sl (t_var rfl (z14 (z1x (t_var rfl ⟨_,rfl,?_⟩))))))));obtain⟨c2,e2,m2,l2⟩:=z8l us none (some at_);refine t_p1 (t_map e2 (t_call (t_cons (t_val rfl (t_cons (t_val rfl (t_cons (t_val rfl (t_nil ?_)))))))));refine z0o (by omega) (by simp) (by simp) fun y hy=>?_;obtain⟨c3,rfl,m3,l3⟩:∃c3:List (List Int),y=.list (c3.map plD)/\(∀s∈c3,s.length<=8)/\c3.length<=2:=by
   simp only[List.mem_cons,List.not_mem_nil,or_false]at hy;rcases hy with rfl | rfl | rfl | rfl
   ·exact⟨[px],rfl,fun s hs=>by rw[List.mem_singleton.mp hs];exact hpx8,by simp⟩
   ·exact⟨[],rfl,fun s hs=>(nomatch hs),by simp⟩
   ·exact⟨c1++c1,rfl,fun s hs=>by rcases List.mem_append.mp hs with h | h<;>exact hul s (m1 s h),by simp;omega⟩
   ·exact⟨[],rfl,fun s hs=>(nomatch hs),by simp⟩
  refine t_p2 (t_map (z6L (by omega)) ?_);refine t_sl (t_var rfl (z1x (t_bin (t_var rfl (t_c (t_p2 (t_map (fAdd_int _ _) ⟨_,rfl,z14 ?_⟩)))))));obtain⟨c4,e4,m4,l4⟩:=z8l us (some (at_+1)) none;refine t_p1 (t_map e4 (t_p2 (t_map (z6L (by simp;omega)) (t_nx ?_))));refine t_set (t_call (t_cons (t_val rfl (t_cons (t_val rfl (t_cons (t_mp (t_mseq (t_cons (t_val rfl (t_cons (t_un (t_var rfl (t_p1 (t_map (x:=.list ((c2++c3++c4).reverse.map plD)) (by rw[List.map_reverse];rfl) (t_nil (t_s2 (t_nil ?_))))))))))))))))));have hall:∀s∈c2++c3++c4,s.length<=8:=fun s hs=>by
   rcases List.mem_append.mp hs with hs | hs
   ·rcases List.mem_append.mp hs with hs | hs
    ·exact hul s (m2 s hs)
    ·exact m3 s hs
   ·exact hul s (m4 s hs)
  have hlen:(c2++c3++c4).length+2<=65*2 ^ (i+1):=by
   rw[List.length_append,List.length_append,hpw2];omega
  refine z0o (by omega) (by simp) (by simp) fun z hz=>?_;simp only[List.mem_cons,List.not_mem_nil,or_false]at hz;rcases hz with rfl | rfl
  ·exact⟨by omega,c2++c3++c4,_,_,_,_,hlen,hall,by omega,rfl,rfl⟩
  ·exact⟨by omega,(c2++c3++c4).reverse,_,_,_,_,by rw[List.length_reverse];exact hlen,fun s hs=>hall s (List.mem_reverse.mp hs),by omega,rfl,rfl⟩
 ·obtain⟨hi3,us,n',y8,y9,y10,hu,hul,hn',rfl,rfl⟩:=hI;rw[List.length_map,zR]at hu hn' hi3;refine t_nx ?_;have hpw:65*2 ^ times.toNat<=260:=by
   have:times.toNat=0\/times.toNat=1\/times.toNat=2:=by omega
   rcases this with h | h | h<;>rw[h]<;>decide
  exact zA2 H L (by omega) (by omega) hul hb
end
section
variable{m:Int}{ds:List (List Int)}{pl:List Int}{ts:List (List Int)}
theorem z4s{ns:List Int}{x5 x8 x9 x10 x11 x12:Option Sl}{k:Nat}{b:Bool}{x6:PyData}(h6:m<=6)(H:HouseOk m ds)(L:PlOk m pl)(hk:k<100)(hx:x6=.none\/∃ts:List (List Int),x6=.list (ts.map plD)/\ts.length<=63/\∀s∈ts,s.length<=8)(hb:b=!gth ds pl):
  Ok (lawB [some (Sl.val (.scr ns)),some (Sl.val .town),some (Sl.val (.p (ze m ds))),some (Sl.val (.p (plD pl))),some (Sl.own (.list ((prs m.toNat).map plD))),x5,some (Sl.val (.p x6)),some (Sl.val (.p (.bool b))),x8,x9,x10,x11,x12]) ⟨k,[]⟩ fun o _=>o=.rt (.p (.bool true)):=by
 have comp:∀(k:Nat) (x6:PyData) (P:Out->Wd->Prop),k<110->(∀(us:List (List Int)) (n':Nat),us.length<=63->(∀s∈us,s.length<=8)->n'<=k+64->P (.nx [some (Sl.val (.scr ns)),some (Sl.val .town),some (Sl.val (.p (ze m ds))),some (Sl.val (.p (plD pl))),some (Sl.own (.list ((prs m.toNat).map plD))),x5,some (Sl.val (.p (.list (us.map plD)))),some (Sl.val (.p (.bool b))),x8,x9,x10,x11,x12]) ⟨n',[]⟩)->
   Ok (sSet 6 (mP (yr (zQ z12 (zB (mVal 2) (zB (mVal 3) mNil))) (wv (zq (mBin (fCmp fun i j=>decide (j<i)) (zQ yh (zB (mVal 0) (zB (mVal 1) (zB (mC (.int 6)) mNil)))) (mC (.int 0)))) (zq (mBin (fCmp fun i j=>decide (j<i)) (zV fLen (zB (mVar 13) mNil)) (mC (.int 1))))) (mVal 13))) [some (Sl.val (.scr ns)),some (Sl.val .town),some (Sl.val (.p (ze m ds))),some (Sl.val (.p (plD pl))),some (Sl.own (.list ((prs m.toNat).map plD))),x5,some (Sl.val (.p x6)),some (Sl.val (.p (.bool b))),x8,x9,x10,x11,x12]) ⟨k,[]⟩ P:=by
  intro k x6 P hk h;refine t_set (t_mp (z3P (t_call (t_cons (t_val rfl (t_cons (t_val rfl (t_nil ?_))))))));refine z2A h6 H L fun T F=>?_;have hT:=F.few h6;refine⟨gP T,rfl,by simp[gP];omega,?_⟩;rw[zA7];refine wC (I:=fun i acc w=>∃(us:List (List Int)) (n':Nat),acc=us.map plD/\us.length<=i/\(∀s∈us,s.length<=8)/\n'<=k+i/\w=⟨n',[]⟩) (fun i acc w hi hI=>?_) (fun acc w hI=>?_) ⟨[],k,rfl,by simp,by simp,by omega,rfl⟩
  ·obtain⟨us,n',rfl,hu,hul,hn',rfl⟩:=hI;have hi':i<T.length:=by simpa using hi
   rw[List.getElem_map,List.getElem_map];have hs8:=(F.st _ (List.getElem_mem hi')).1.len;generalize T[i].1=s at *;refine t_and (t_test (t_bin (t_call (t_cons (t_val rfl (t_cons (t_val rfl (t_cons (t_c (t_nil ?_))))))))));refine yW (by omega) (by decide) fun r r0 r1=>t_c (t_p2 (t_map (fCmp_int _ _ _) (t_onb ?_)));have go:(Ok (if decide ((0:Int)<r)=true then zq (mBin (fCmp fun i j=>decide (j<i)) (zV fLen (zB (mVar 13) mNil)) (mC (.int 1))) ([some (Sl.val (.scr ns)),some (Sl.val .town),some (Sl.val (.p (ze m ds))),some (Sl.val (.p (plD pl))),some (Sl.own (.list ((prs m.toNat).map plD))),x5,some (Sl.val (.p x6)),some (Sl.val (.p (.bool b))),x8,x9,x10,x11,x12]++[some (Sl.val (.p (tupI s)))])else pure false) ⟨n'+1,[]⟩ fun _ w=>w=⟨n'+1,[]⟩):=by
    by_cases c:0<r
    ·rw[decide_eq_true c];refine t_itt (t_test (t_bin (t_callB (t_cons (t_var rfl (t_nil (t_b1 (t_map (fLen_t _) (t_c (t_p2 (t_map (fCmp_int _ _ _) (t_onb ?_))))))))))));rfl
    ·rw[decide_eq_false c];refine t_itf (t_pure rfl)
   refine go.imp fun tb w e=>?_;subst e;refine⟨fun _=>t_val rfl ⟨tupI s,rfl,us++[s],n'+1,by rw[List.map_append];rfl,by simp;omega,fun q hq=>?_,by omega,rfl⟩,fun _=>⟨us,n'+1,rfl,by omega,hul,by omega,rfl⟩⟩;rcases List.mem_append.mp hq with hq | hq
   ·exact hul q hq
   ·rw[List.mem_singleton.mp hq];exact hs8
  ·obtain⟨us,n',rfl,hu,hul,hn',rfl⟩:=hI;rw[List.length_map,List.length_map]at hu hn';exact h us n' (by omega) hul (by omega)
 unfold lawB;refine t_seq (t_sif (t_or (t_test (t_bin (t_var rfl (t_c (t_p2 ?_)))))));rcases hx with rfl | ⟨ts,rfl,ht,hl⟩
 ·refine t_map (x:=.bool true) rfl (t_onb (t_itt (t_pure (t_itt ?_))));exact comp k _ _ (by omega) fun us n' h1 h2 h3=>t_nx (z2r h6 H L (by omega) h1 h2 hb)
 ·refine t_map (x:=.bool false) rfl (t_onb (t_itf ?_));refine t_test (t_bin (t_call (t_cons (t_val rfl (t_cons (t_val rfl (t_cons (t_c (t_nil ?_)))))))));refine yW (by omega) (by decide) fun r r0 r1=>t_c (t_p2 (t_map (fEq_int _ _) (t_onb ?_)));by_cases c:r=0
  ·rw[decide_eq_true c];refine t_itt ?_;exact comp (k+1) _ _ (by omega) fun us n' h1 h2 h3=>t_nx (z2r h6 H L (by omega) h1 h2 hb)
  ·rw[decide_eq_false c];refine t_itf (t_snil (t_nx ?_));exact z2r h6 H L (by omega) ht hl hb
end
theorem z8s{t:Adr}{m:Int}{ds:List (List Int)}{pl:List Int}{n:Wd}{P:D->Wd->Prop}(H:HouseOk m ds)(L:PlOk m pl)(h:∀x:PyData,fIs false x .none=some (.bool (!gth ds pl))->P (.p x) n):Ok (uq t [.p (ze m ds),.p (plD pl)]) n P:=by
 refine z1P H L fun o B=>h _ ?_;cases o with
 | none=>rw[z1s B];rfl
 | some r=>
  obtain⟨b1,b2,_⟩:=z1o B;rw[gth_iff.mpr ⟨r,b1,b2⟩];rfl
theorem zA9{m:Int}(h1:1<=m)(h8:m<=8):PlOk m (upto m.toNat):=
 ⟨fun z=>by have:=congrArg List.length z;rw[zR]at this;simp at this;omega,fun x hx=>by have:=mem_upto.mp hx;omega,uS _,by rw[zR];omega⟩
theorem z59{m:Int}{ds:List (List Int)}{s:List Int}{ρ:Env'}{n:Wd}{P:D->Wd->Prop}(h6:m<=6)(H:HouseOk m ds)(L:PlOk m s)(h2:s.length=2)(e2:slV ρ[2]?=some (.p (ze m ds)))(e13:slV ρ[13]?=some (.p (plD s)))(e14:∀x,slW (ρ++[some (Sl.val (.p x))])[14]?=some (.p x))(h:∀M:Int,decide (M=2)=!gth ds s->P (.p (.int M)) n):
  Ok (zV z4N (zB (mP (yr (zQ z12 (zB (mVal 2) (zB (mVal 13) mNil))) mYes (zV fLen (zB (mVar 14) mNil)))) mNil) ρ) n P:=by
 refine t_callB (t_cons (t_mp (z3P (t_call (t_cons (t_val e2 (t_cons (t_val e13 (t_nil ?_)))))))));refine z2A h6 H L fun T F=>?_;have hT:=F.few h6;refine⟨gP T,rfl,by simp[gP];omega,?_⟩;rw[zA7];refine zw (J:=tupI) (J':=PyData.int) (f:=fun u:List Int=>(u.length:Int)) (fun u hu=>?_) ?_
 ·refine t_callB (t_cons (t_var (e14 _) (t_nil (t_b1 (t_map (fLen_t _) ?_)))));rw[List.length_map];exact⟨rfl,rfl⟩
 obtain⟨q0,hq0,eq0⟩:=F.all [] (fun d hd=>(nomatch hd));have hne:((T.map (·.1)).map fun u:List Int=>(u.length:Int))≠[]:=fun z=>by
  rw[List.map_map,List.map_eq_nil_iff]at z;rw[z]at hq0;cases hq0
 obtain⟨M,hM,eM,le⟩:=z4W hne;refine t_nil (t_b1 (t_map eM (h M ?_)));rw[List.map_map]at hM le
 have:=z9R F hM le;rw[<-this];have h3:=le q0.1.length (List.mem_map.mpr ⟨q0,hq0,rfl⟩);rw[eq0]at h3;have h3:M<=(s.length:Int):=h3;obtain⟨q,hq,e⟩:=List.mem_map.mp hM;have e:(q.1.length:Int)=M:=e
 have:q.1.length≠0:=fun z=>(F.st q hq).2 (List.length_eq_zero_iff.mp z);by_cases c:M=1
 ·rw[decide_eq_true c,decide_eq_false (by omega)];rfl
 ·rw[decide_eq_false c,decide_eq_true (by omega)];rfl
noncomputable def lawA(t:Adr):Env'->Mx Out:=(sSeq (sSet 7 (mBin (fIs false) (zQ (uq t) (zB (mVal 2) (zB (mVal 3) mNil))) (mC .none)))
 (sSeq (sIf (zq (mBin (fEq true) (mBin (fIs true) (mVar 6) (mC .none)) (mVar 7))) (sRet (mC (.bool false))) sNil)
 (sSeq (sIf (zq (mBin (fEq true) (mBin (fIs false) (zQ (uq t) (zB (mVal 2) (zB (zV (fRg1 PyData.tuple) (zB (mBin fIx (mVar 2) (mC (.int 0))) mNil)) mNil))) (mC .none)) (mBin (fEq true) (zQ (z30 t) (zB (mVal 2) mNil)) (mP (mSeq PyData.list mNil))))) (sRet (mC (.bool false))) sNil)
 (sSeq (sIf (wv (mTru (mVar 7)) (mOrT (zq (mBin (fEq true) (mVar 6) (mUn xa (mVar 6)))) (xm (mTru (zQ z1d (zB (mVal 2) (zB (mVal 3) (zB (mVal 6) mNil)))))))) (sRet (mC (.bool false))) sNil)
 (sSeq (sIf (wv (mTru (mVar 7)) (zq (mBin (fEq true) (zQ we (zB (mVal 2) (zB (mVal 3) (zB (mVal 6) mNil)))) (mC (.bool true))))) (sRet (mC (.bool false))) sNil)
 lawB)))))
theorem z5L{t:Adr}{m:Int}{ds:List (List Int)}{pl:List Int}{ns:List Int}{x5:Option Sl}{k:Nat}{x6:PyData}(h6:m<=6)(H:HouseOk m ds)(L:PlOk m pl)(hk:k<100)(hx:(x6=.none/\gth ds pl=true)\/∃us:List (List Int),x6=.list (us.map plD)/\gth ds pl=false/\Bars m ds pl us/\(us.Pairwise fun a b=>HT.lexLt b a=false)/\us.Nodup/\us.length<=63):
  Ok (lawA t [some (Sl.val (.scr ns)),some (Sl.val .town),some (Sl.val (.p (ze m ds))),some (Sl.val (.p (plD pl))),some (Sl.own (.list ((prs m.toNat).map plD))),x5,some (Sl.val (.p x6)),none,none,none,none,none,none]) ⟨k,[]⟩ fun o _=>o=.rt (.p (.bool true)):=by
 have hlo:=H.lo;have h8:=H.hi;have La:=zA9 hlo h8;unfold lawA;refine t_seq (t_set (t_bin (t_call (t_cons (t_val rfl (t_cons (t_val rfl (t_nil (z8s H L fun x e=>t_c (t_p2 (t_map e (t_nx ?_))))))))))));have e6:fIs true x6 .none=some (.bool (!gth ds pl)):=by
  rcases hx with ⟨rfl,e⟩ | ⟨us,rfl,e,_⟩<;>rw[e]<;>rfl
 refine t_seq (t_sif (t_test (t_bin (t_bin (t_var rfl (t_c (t_p2 (t_map e6 (t_var rfl (t_p2 (t_map (z3V _ _) (t_onb ?_))))))))))));rw[bne_self_eq_false];refine t_itf (t_snil (t_nx ?_));refine t_seq (t_sif (t_test (t_bin (t_bin (t_call (t_cons (t_val rfl (t_cons (t_callB (t_cons (t_bin (t_var rfl (t_c (t_p2 (t_map (x:=.int m) rfl (t_nil (t_b1 (t_map (x:=plD (upto m.toNat)) ?_ (t_nil ?_)))))))))))))))))))
 ·show(yl [.int m]).map PyData.tuple=_;rw[y7 (by omega),y3 m (by omega)];rfl
 refine z8s H La fun y ey=>t_c (t_p2 (t_map ey (t_bin (t_call (t_cons (t_val rfl (t_nil (z3f H h6 ?_))))))));refine t_mp (t_mseq (t_nil (t_s0 (t_p2 (t_map (z6X true (aps m ds) []) (t_p2 (t_map (z3V _ _) (t_onb ?_))))))));have eall:(!gth ds (upto m.toNat))=(if true then !decide (aps m ds=[])else decide (aps m ds=[])):=by
  rw[if_pos rfl];congr 1;rw[Bool.eq_iff_iff,decide_eq_true_iff];exact(zAE H h6).symm
 rw[eall,bne_self_eq_false];refine t_itf (t_snil (t_nx ?_));rcases hx with ⟨rfl,e⟩ | ⟨us,rfl,e,B,so,nd,hul⟩
 ·rw[e];refine t_seq (t_sif (t_and (t_tru (t_var rfl (t_trb (t_itf (t_pure (t_itf (t_snil (t_nx ?_))))))))));refine t_seq (t_sif (t_and (t_tru (t_var rfl (t_trb (t_itf (t_pure (t_itf (t_snil (t_nx ?_))))))))));exact z4s h6 H L hk (.inl rfl) (by rw[e])
 ·rw[e];have hl8:∀s∈us,s.length<=8:=fun s hs=>(B.1 s hs).1.len;refine t_seq (t_sif (t_and (t_tru (t_var rfl (t_trb (t_itt (t_or (t_test (t_bin (t_var rfl (t_un (t_var rfl (t_p1 (t_map (z1u (fun s hs z=>?_) (by omega) so nd) ?_))))))))))))))
  ·have:=(B.1 s hs).2;rw[z]at this;simp at this
  refine t_p2 (t_map (z6X true us us) (t_onb ?_));rw[decide_eq_true rfl];refine t_itf (t_not (t_tru (t_call (t_cons (t_val rfl (t_cons (t_val rfl (t_cons (t_val rfl (t_nil ?_))))))))));refine z0N H (by omega) hl8 ?_;rw[barsB_iff.mpr B];refine t_trb (t_itf (t_snil (t_nx ?_)));refine t_seq (t_sif (t_and (t_tru (t_var rfl (t_trb (t_itt (t_test (t_bin (t_call (t_cons (t_val rfl (t_cons (t_val rfl (t_cons (t_val rfl (t_nil ?_))))))))))))))));refine z0u H L (by omega) hl8 ?_;rw[barsB_iff.mpr B];refine t_c (t_p2 (t_map (z3V _ _) (t_onb (t_itf (t_snil (t_nx ?_))))));exact z4s h6 H L hk (.inr ⟨us,rfl,hul,hl8⟩) (by rw[e])
theorem z6f(t:Adr):z9u 13 (z41 t):=by
 intro ns hns
 suffices h:Ok (z41 t (wO 13 ns)) ⟨0,[]⟩ (fun o _=>o=.rt (.p (.bool true))) by
  obtain⟨o,n',e,rfl⟩:=h;exact⟨n',e⟩
 unfold z41 wO;walk_at "e";refine z7L (by decide) (by decide) (by omega) fun m ds n1 H h6 hn1=>?_;have hlo:=H.lo;have h8:=H.hi;have hf:=H.few;have hsm:=H.some;rw[zZ];walk_at "e";refine z9x hlo h8 (by omega) fun pl n2 L hn2=>?_;refine t_nx (t_seq (t_own rfl (t_mseq (t_nil (t_s0 (t_nx ?_))))));refine t_seq ?_
 dl
 refine z1R hlo h6 fun y5=>t_nx ?_;rw[<-zZ];refine t_seq (t_sif (t_test (t_bin (t_call (t_cons (t_val rfl (t_nil ?_)))))));refine z3f H h6 ?_;obtain⟨hp1,hp2⟩:=z3h (m:=m) h6 (by omega);refine t_mp (t_comp (t_it (t_var rfl ?_)));rw[z2w,wU (by rw[List.length_map];omega)];refine t_some ?_;refine z1w (J:=plD) (f:=fun s=>!gth ds s) (fun s hs=>?_) (fun s hs _=>?_) ?_
 ·obtain⟨hs1,hs2⟩:=z2N (by omega) h6 hs;refine t_test (t_bin (z59 h6 H (z5o (by omega) h8 hs1) hs2 rfl rfl (fun x=>rfl) fun M hM=>?_));refine t_c (t_p2 (t_map (fEq_int _ _) (t_onb ⟨hM,rfl⟩)))
 ·exact t_val rfl ⟨rfl,rfl⟩
 refine t_p2 (t_map (z6X true (aps m ds) (aps m ds)) (t_onb ?_));rw[decide_eq_true rfl];refine t_itf (t_snil (t_nx ?_));refine t_seq (t_set (t_call (t_cons (t_val rfl (t_cons (t_val rfl (t_nil ?_)))))));refine z7n h6 H L (fun e=>t_nx ?_) (fun us e B so nd hul=>t_nx ?_)
 ·exact z5L h6 H L (by omega) (.inl ⟨rfl,e⟩)
 ·exact z5L h6 H L (by omega) (.inr ⟨us,rfl,e,B,so,nd,hul⟩)
theorem all_mk{l:W.OpenLaw}{w:World}{K:W.Frag}{h:Heap}{mg:Str->Option Value}{fa:Addr}(X:K.In h)(G:h.Ns mainGlobals mg)(hfa:mg "law"=some (.ref fa))
  {h_is_number h_are_numbers h_is_rising h_are_places h_is_door h_is_number_and_tuple h_may_hold_doors h_is_house h_need_house h_need_places h_need_house_and_places h_through h_rows_from h_shortest_rows h_row_to_so_few h_never_so_few h_never_lead_out h_gather h_bar_of h_is_apart h_are_standings_apart h_is_bar_of h_all_standings h_pairs_apart h__law_cell_at h__law_mixed h__law_draw h__law_pick h__law_house h__law_some h__law_through h__law_met h__law_bars h_law:Hd} {tk_q35 tk_q36:Tok}
  (g_q0:Giv K "is_number" (top 7) h_is_number)
  (g_q1:Giv K "are_numbers" (top 8) h_are_numbers)
  (g_q2:Giv K "is_rising" (top 9) h_is_rising)
  (g_q3:Giv K "are_places" (top 10) h_are_places)
  (g_q4:Giv K "is_door" (top 11) h_is_door)
  (g_q5:Giv K "is_number_and_tuple" (top 12) h_is_number_and_tuple)
  (g_q6:Giv K "may_hold_doors" (top 13) h_may_hold_doors)
  (g_q7:Giv K "is_house" (top 14) h_is_house)
  (g_q8:Giv K "need_house" (top 15) h_need_house)
  (g_q9:Giv K "need_places" (top 16) h_need_places)
  (g_q10:Giv K "need_house_and_places" (top 18) h_need_house_and_places)
  (g_q11:Giv K "through" (top 19) h_through)
  (g_q12:Giv K "rows_from" (top 20) h_rows_from)
  (g_q13:Giv K "shortest_rows" (top 21) h_shortest_rows)
  (g_q14:Giv K "row_to_so_few" (top 22) h_row_to_so_few)
  (g_q15:Giv K "never_so_few" (top 23) h_never_so_few)
  (g_q16:Giv K "never_lead_out" (top 24) h_never_lead_out)
  (g_q17:Giv K "gather" (top 25) h_gather)
  (g_q18:Giv K "bar_of" (top 26) h_bar_of)
  (g_q19:Giv K "is_apart" (top 27) h_is_apart)
  (g_q20:Giv K "are_standings_apart" (top 28) h_are_standings_apart)
  (g_q21:Giv K "is_bar_of" (top 29) h_is_bar_of)
  (g_q22:Giv K "all_standings" (top 30) h_all_standings)
  (g_q23:Giv K "pairs_apart" (top 31) h_pairs_apart)
  (g_q24:Giv K "_law_cell_at" (top 33) h__law_cell_at)
  (g_q25:Giv K "_law_mixed" (top 34) h__law_mixed)
  (g_q26:Giv K "_law_draw" (top 35) h__law_draw)
  (g_q27:Giv K "_law_pick" (top 36) h__law_pick)
  (g_q28:Giv K "_law_house" (top 37) h__law_house)
  (g_q29:Giv K "_law_some" (top 38) h__law_some)
  (g_q30:Giv K "_law_through" (top 39) h__law_through)
  (g_q31:Giv K "_law_met" (top 40) h__law_met)
  (g_q32:Giv K "_law_bars" (top 41) h__law_bars)
  (g_law:Giv K "law" (top 42) h_law)
  (z_isinstance:W.nsIn K mainGlobals "isinstance"=some none)
  (z_bool:W.nsIn K mainGlobals "bool"=some none)
  (z_int:W.nsIn K mainGlobals "int"=some none)
  (z_tuple:W.nsIn K mainGlobals "tuple"=some none)
  (z_list:W.nsIn K mainGlobals "list"=some none)
  (z_all:W.nsIn K mainGlobals "all"=some none)
  (z_any:W.nsIn K mainGlobals "any"=some none)
  (z_range:W.nsIn K mainGlobals "range"=some none)
  (z_len:W.nsIn K mainGlobals "len"=some none)
  (z_sorted:W.nsIn K mainGlobals "sorted"=some none)
  (z_min:W.nsIn K mainGlobals "min"=some none)
  (z_zip:W.nsIn K mainGlobals "zip"=some none)
  (z_set:W.nsIn K mainGlobals "set"=some none)
  (z_dict:W.nsIn K mainGlobals "dict"=some none)
  (v_q35:W.nsIn K mainGlobals "MOST_PLACES"=some (some (.int 8 tk_q35)))
  (v_q36:W.nsIn K mainGlobals "MOST_DOORS"=some (some (.int 3 tk_q36))) :
  ∃fd:FuncData,(∀(s:Shared) (v:Value),BindsTo s fd ⟨[v],[]⟩ [("_law_script",v)])/\∀base:Heap,K.In base->base.Ns mainGlobals mg->FnOk l.prog w K mg base CX0 9 fa fd ["_law_script"] (z5M K):=by
 have e:=hfa.symm.trans (W.mg_of X G g_law.a);cases e;have T:Txt K mg ⟨h_is_number.t "is_number" (top 7),h_are_numbers.t "are_numbers" (top 8),h_is_rising.t "is_rising" (top 9),h_are_places.t "are_places" (top 10),h_is_door.t "is_door" (top 11),h_is_number_and_tuple.t "is_number_and_tuple" (top 12),h_may_hold_doors.t "may_hold_doors" (top 13),h_is_house.t "is_house" (top 14),h_need_house.t "need_house" (top 15),h_need_places.t "need_places" (top 16),h_need_house_and_places.t "need_house_and_places" (top 18),h_through.t "through" (top 19),h_rows_from.t "rows_from" (top 20),h_shortest_rows.t "shortest_rows" (top 21),h_row_to_so_few.t "row_to_so_few" (top 22),h_never_so_few.t "never_so_few" (top 23),h_never_lead_out.t "never_lead_out" (top 24),h_gather.t "gather" (top 25),h_bar_of.t "bar_of" (top 26),h_is_apart.t "is_apart" (top 27),h_are_standings_apart.t "are_standings_apart" (top 28),h_is_bar_of.t "is_bar_of" (top 29),h_all_standings.t "all_standings" (top 30),h_pairs_apart.t "pairs_apart" (top 31),h__law_cell_at.t "_law_cell_at" (top 33),h__law_mixed.t "_law_mixed" (top 34),h__law_draw.t "_law_draw" (top 35),h__law_pick.t "_law_pick" (top 36),h__law_house.t "_law_house" (top 37),h__law_some.t "_law_some" (top 38),h__law_through.t "_law_through" (top 39),h__law_met.t "_law_met" (top 40),h__law_bars.t "_law_bars" (top 41),h_law.t "law" (top 42)⟩:={
  f_q0:=g_q0.f3 X G fun _ _ _ _ _ _ _ _ _=>rfl
  f_q1:=g_q1.f3 X G fun _ _ _ _ _ _ _ _ _=>rfl
  f_q2:=g_q2.f1 X G fun _ _ _ _ _ _ _=>rfl
  f_q3:=g_q3.f2 X G fun _ _ _ _ _ _ _ _=>rfl
  f_q4:=g_q4.f2 X G fun _ _ _ _ _ _ _ _=>rfl
  f_q5:=g_q5.f1 X G fun _ _ _ _ _ _ _=>rfl
  f_q6:=g_q6.f1 X G fun _ _ _ _ _ _ _=>rfl
  f_q7:=g_q7.f1 X G fun _ _ _ _ _ _ _=>rfl
  f_q8:=g_q8.f1 X G fun _ _ _ _ _ _ _=>rfl
  f_q9:=g_q9.f2 X G fun _ _ _ _ _ _ _ _=>rfl
  f_q10:=g_q10.f2 X G fun _ _ _ _ _ _ _ _=>rfl
  f_q11:=g_q11.f2 X G fun _ _ _ _ _ _ _ _=>rfl
  f_q12:=g_q12.f3 X G fun _ _ _ _ _ _ _ _ _=>rfl
  f_q13:=g_q13.f2 X G fun _ _ _ _ _ _ _ _=>rfl
  f_q14:=g_q14.f3 X G fun _ _ _ _ _ _ _ _ _=>rfl
  f_q15:=g_q15.f3 X G fun _ _ _ _ _ _ _ _ _=>rfl
  f_q16:=g_q16.f3 X G fun _ _ _ _ _ _ _ _ _=>rfl
  f_q17:=g_q17.f2 X G fun _ _ _ _ _ _ _ _=>rfl
  f_q18:=g_q18.f2 X G fun _ _ _ _ _ _ _ _=>rfl
  f_q19:=g_q19.f2 X G fun _ _ _ _ _ _ _ _=>rfl
  f_q20:=g_q20.f2 X G fun _ _ _ _ _ _ _ _=>rfl
  f_q21:=g_q21.f3 X G fun _ _ _ _ _ _ _ _ _=>rfl
  f_q22:=g_q22.f1 X G fun _ _ _ _ _ _ _=>rfl
  f_q23:=g_q23.f1 X G fun _ _ _ _ _ _ _=>rfl
  f_q24:=g_q24.f2 X G fun _ _ _ _ _ _ _ _=>rfl
  f_q25:=g_q25.f3 X G fun _ _ _ _ _ _ _ _ _=>rfl
  f_q26:=g_q26.f3 X G fun _ _ _ _ _ _ _ _ _=>rfl
  f_q27:=g_q27.f3 X G fun _ _ _ _ _ _ _ _ _=>rfl
  f_q28:=g_q28.f3 X G fun _ _ _ _ _ _ _ _ _=>rfl
  f_q29:=g_q29.f3 X G fun _ _ _ _ _ _ _ _ _=>rfl
  f_q30:=g_q30.f3 X G fun _ _ _ _ _ _ _ _ _=>rfl
  f_q31:=g_q31.f2 X G fun _ _ _ _ _ _ _ _=>rfl
  f_q32:=g_q32.f3 X G fun _ _ _ _ _ _ _ _ _=>rfl
  f_law:=g_law.f1 X G fun _ _ _ _ _ _ _=>rfl
  b_isinstance:=W.mg_none_of X G z_isinstance
  b_bool:=W.mg_none_of X G z_bool
  b_int:=W.mg_none_of X G z_int
  b_tuple:=W.mg_none_of X G z_tuple
  b_list:=W.mg_none_of X G z_list
  b_all:=W.mg_none_of X G z_all
  b_any:=W.mg_none_of X G z_any
  b_range:=W.mg_none_of X G z_range
  b_len:=W.mg_none_of X G z_len
  b_sorted:=W.mg_none_of X G z_sorted
  b_min:=W.mg_none_of X G z_min
  b_zip:=W.mg_none_of X G z_zip
  b_set:=W.mg_none_of X G z_set
  b_dict:=W.mg_none_of X G z_dict
  g_q35:=⟨_,W.mg_of X G v_q35,⟨_,rfl⟩⟩
  g_q36:=⟨_,W.mg_of X G v_q36,⟨_,rfl⟩⟩ }
 exact⟨(h_law.t "law" (top 42)).d,fun s v=>.of_eq rfl,fun base _ _=>zCG T (z6f _)⟩
theorem walk{l:W.OpenLaw}{q:Program}{loose:List Str}{XP:(Str->Option Value)->Heap->Prop}{YP:World->Heap->Prop}{d:DefRec}{K:Params->W.Frag}(hn:l.most=some 63)(hdf:d.params.defaults=[])
  (hY:∀(w:World) (h:Heap),YP w h->(K w.params).In h)
  (F:∀(w:World) (mg:Str->Option Value) (fa:Addr) (h:Heap),(K w.params).In h->h.Ns mainGlobals mg->mg d.name=some (.ref fa)->
   ∃fd:FuncData,(∀(s:Shared) (u:Value),BindsTo s fd ⟨[u],[]⟩ [("_law_script",u)])/\∀base:Heap,(K w.params).In base->base.Ns mainGlobals mg->FnOk l.prog w (K w.params) mg base CX0 9 fa fd ["_law_script"] (z5M (K w.params))) :
  W.WalkO q loose XP YP l.row.toRowW d [] (fun f vs=>PySem.call f vs):=
 L2.walk_of (n:=63) (k:=9) (x:="_law_script") (CX:=fun _=>CX0) (sp:=fun w=>z5M (K w.params)) hn (by decide) hdf ⟨rfl,by decide,by decide⟩ hY F (fun _ _ a ns hl _ hS=>⟨a,ns,rfl,hS,hl,fun _=>rfl⟩) fun _ _ _ _ _ z=>z
end Gw
open PySem PySem.W PyProof.Rows
local macro_rules | `(tactic| walk_at "g")=>`(tactic| (refine' L2.Giv.of ?ka ?kl ?kc ?kk;(case ka=>k_is);(case kl=>k_is);(case kc=>k_is);(case kk=>k_is)))
local macro_rules | `(tactic| walk_at "jv")=>`(tactic| (refine' L2.GivM.of ?ka ?kl ?kc ?kk ?kn;(case ka=>k_is);(case kl=>k_is);(case kc=>k_is);(case kk=>k_is);(case kn=>k_is)))
theorem PySem.W.Fast.tw4358746231488212375:True:=trivial
theorem PySem.W.Fast.tw12414941304975463633:True:=trivial
theorem PySem.W.Fast.tw14352238003450076123:True:=trivial
theorem PySem.W.Fast.tw5912659431236137807:True:=trivial
theorem PySem.W.Fast.tw11782148231441429222:True:=trivial
theorem PySem.W.Fast.tw16902667293635044921:True:=trivial
theorem PySem.W.Fast.tw6795720665136463155:True:=trivial
theorem PySem.W.Fast.tw3601526133327485352:True:=trivial
theorem PySem.W.Fast.tw3297558786551613012:True:=trivial
theorem PySem.W.Fast.tw12565288877569868844:True:=trivial
theorem PySem.W.Fast.tw15230860114937324454:True:=trivial
set_option maxRecDepth 100000 in
set_option maxHeartbeats 0 in
theorem PySem.Challenge.cw_gatherall_k06_whole_pairs_holds : PySem.Challenge.rw_gatherall_k06_whole_pairs.Holds := by
 w_on; o_law; k_head; (case hw => w_witness2)
 k_fill
 refine Gw.walk (l := PySem.Challenge.rw_gatherall_k06_whole_pairs) rfl rfl (fun w h Y => PySem.W.kIn_of Y) ?F
 case F =>
  intro w mg fa h KX G hmg
  refine' Gw.all_mk KX G hmg ?g_q0 ?g_q1 ?g_q2 ?g_q3 ?g_q4 ?g_q5 ?g_q6 ?g_q7 ?g_q8 ?g_q9 ?g_q10 ?g_q11 ?g_q12 ?g_q13 ?g_q14 ?g_q15 ?g_q16 ?g_q17 ?g_q18 ?g_q19 ?g_q20 ?g_q21 ?g_q22 ?g_q23 ?g_q24 ?g_q25 ?g_q26 ?g_q27 ?g_q28 ?g_q29 ?g_q30 ?g_q31 ?g_q32 ?g_law ?z_isinstance ?z_bool ?z_int ?z_tuple ?z_list ?z_all ?z_any ?z_range ?z_len ?z_sorted ?z_min ?z_zip ?z_set ?z_dict ?v_q35 ?v_q36
  (case g_q0 => walk_at "g")
  (case g_q1 => walk_at "g")
  (case g_q2 => walk_at "g")
  (case g_q3 => walk_at "g")
  (case g_q4 => walk_at "g")
  (case g_q5 => walk_at "g")
  (case g_q6 => walk_at "g")
  (case g_q7 => walk_at "g")
  (case g_q8 => walk_at "g")
  (case g_q9 => walk_at "g")
  (case g_q10 => walk_at "g")
  (case g_q11 => walk_at "g")
  (case g_q12 => walk_at "g")
  (case g_q13 => walk_at "g")
  (case g_q14 => walk_at "g")
  (case g_q15 => walk_at "g")
  (case g_q16 => walk_at "g")
  (case g_q17 => walk_at "g")
  (case g_q18 => walk_at "g")
  (case g_q19 => walk_at "g")
  (case g_q20 => walk_at "g")
  (case g_q21 => walk_at "g")
  (case g_q22 => walk_at "g")
  (case g_q23 => walk_at "g")
  (case g_q24 => walk_at "g")
  (case g_q25 => walk_at "g")
  (case g_q26 => walk_at "g")
  (case g_q27 => walk_at "g")
  (case g_q28 => walk_at "g")
  (case g_q29 => walk_at "g")
  (case g_q30 => walk_at "g")
  (case g_q31 => walk_at "g")
  (case g_q32 => walk_at "g")
  (case g_law => walk_at "g")
  (case z_isinstance => k_is)
  (case z_bool => k_is)
  (case z_int => k_is)
  (case z_tuple => k_is)
  (case z_list => k_is)
  (case z_all => k_is)
  (case z_any => k_is)
  (case z_range => k_is)
  (case z_len => k_is)
  (case z_sorted => k_is)
  (case z_min => k_is)
  (case z_zip => k_is)
  (case z_set => k_is)
  (case z_dict => k_is)
  (case v_q35 => k_is)
  (case v_q36 => k_is)
#print axioms PySem.Challenge.cw_gatherall_k06_whole_pairs_holds
