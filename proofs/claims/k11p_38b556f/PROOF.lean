import PyProof.Rows.All
import Wide.All
import OpenK.AllK
import Wide.FinOn
import Lean
import PyProof.EqAt
import PyProof.EqKinds
import PyProof.TupleCall
import KE.KSortTup
import KE.KRevSl
import PyProof.Rows.MinMaxN
import KE.KMinBuiltin
import PyProof.DictWalks
import PyProof.IsiH_list
import PyProof.Rows.Range3
import PyProof.DictValues
import PyProof.SumAny
import PyProof.ExcAttrAll.ValueError
import PySem.Challenge.RW_gatherall_k11_whole_renamed_webs
set_option Elab.async false
set_option linter.all false
set_option maxRecDepth 100000
namespace L2
open PySem PySem.Spec PyProof.Rows
noncomputable abbrev Key:=Sum Int Str
noncomputable def z37:Key->Value->Bool
 | .inl k,v=>Value.isInt k v
 | .inr x,v=>Value.isStrOf x v
noncomputable def keyH(w:World):Key->Int
 | .inl k=>hashInt k
 | .inr x=>hashStr w x
theorem za:∀{k:Key} {v:Value},z37 k v=true->(∃i t,k=Sum.inl i/\v=Value.int i t)\/(∃x t,k=Sum.inr x/\v=Value.str x t)
 | .inl i,v,h=>by
  obtain⟨t,e⟩:=Value.isInt_shape (k:=i) (v:=v) h;exact .inl ⟨i,t,rfl,e⟩
 | .inr x,v,h=>by
  obtain⟨t,e⟩:=Value.isStrOf_shape (x:=x) (v:=v) h;exact .inr ⟨x,t,rfl,e⟩
theorem z3Z(i:Int)(t:Tok):z37 (.inl i) (.int i t)=true:=by simp[z37,Value.isInt]
theorem z4s(x:Str)(t:Tok):z37 (.inr x) (.str x t)=true:=by simp[z37,Value.isStrOf]
theorem z8A(a b:Int):decide ((Sum.inl a:Key)=Sum.inl b)=(a == b):=by
 by_cases e:a=b
 ·subst e;simp
 ·have h:¬(Sum.inl a:Key)=Sum.inl b:=fun q=>e (Sum.inl.inj q);rw[decide_eq_false h];exact(beq_eq_false_iff_ne.mpr e).symm
theorem z7G(a b:Str):decide ((Sum.inr a:Key)=Sum.inr b)=decide (a=b):=by
 by_cases e:a=b
 ·subst e;simp
 ·have h:¬(Sum.inr a:Key)=Sum.inr b:=fun q=>e (Sum.inr.inj q);rw[decide_eq_false h,decide_eq_false e]
theorem z8C(a:Int)(b:Str):decide ((Sum.inl a:Key)=Sum.inr b)=false:=decide_eq_false (fun q=>nomatch q)
theorem z7Y(a:Str)(b:Int):decide ((Sum.inr a:Key)=Sum.inl b)=false:=decide_eq_false (fun q=>nomatch q)
noncomputable def zd(prog:Program)(w:World):PySem.KeyKind prog w Key where
 is:=z37
 hash:=keyH w
 inj:=fun v a b ha hb=>by
  rcases za ha with ⟨i,t,rfl,rfl⟩ | ⟨x,t,rfl,rfl⟩
  ·rcases za hb with ⟨j,u,rfl,e⟩ | ⟨y,u,rfl,e⟩
   ·injection e with e1 _;rw[e1]
   ·exact nomatch e
  ·rcases za hb with ⟨j,u,rfl,e⟩ | ⟨y,u,rfl,e⟩
   ·exact nomatch e
   ·injection e with e1 _;rw[e1]
 byValue:=fun k v h=>by
  rcases za h with ⟨i,t,rfl,rfl⟩ | ⟨x,t,rfl,rfl⟩<;>rfl
 pyHash:=fun hv h=>by
  rcases za hv with ⟨i,t,rfl,rfl⟩ | ⟨x,t,rfl,rfl⟩
  ·exact wpAny_pyHash_int h
  ·exact wpAny_pyHash_str h
 eqBool:=fun hu hv h=>by
  rcases za hu with ⟨i,t,rfl,rfl⟩ | ⟨x,t,rfl,rfl⟩
  ·rcases za hv with ⟨j,u,rfl,rfl⟩ | ⟨y,u,rfl,rfl⟩
   ·rw[z8A]at h;exact wpAny_eqBool_int h
   ·rw[z8C]at h;exact SeqAt.EqAt.int_str i t y u _ _ _ _ h
  ·rcases za hv with ⟨j,u,rfl,rfl⟩ | ⟨y,u,rfl,rfl⟩
   ·rw[z7Y]at h;exact SeqAt.EqAt.str_int x t j u _ _ _ _ h
   ·rw[z7G]at h;exact wpAny_eqBool_str h
 «strs»:=fun k x t v h=>by
  rcases za h with ⟨i,u,rfl,e⟩ | ⟨y,u,rfl,e⟩
  ·exact nomatch e
  ·injection e with e1 _
   subst e1;cases v<;>rfl
theorem z1d(prog:Program)(w:World)(i:Int)(t:Tok):(zd prog w).is (.inl i) (.int i t)=true:=z3Z i t
theorem z1U(prog:Program)(w:World)(x:Str)(t:Tok):(zd prog w).is (.inr x) (.str x t)=true:=z4s x t
inductive V where
 | non | bl (b:Bool) | int (i:Int) | str (x:Str) | byt (b:Array UInt8) | flt (b:UInt64) | ref (a:Addr) | ty (n:String)
 deriving DecidableEq
noncomputable def RelV:V->Value->Prop
 | .non,u=>u=Value.none
 | .bl b,u=>u=Value.bool b
 | .int i,u=>∃t,u=Value.int i t
 | .str x,u=>∃t,u=Value.str x t
 | .byt b,u=>∃t,u=Value.bytes b t
 | .flt b,u=>∃t,u=Value.float b t
 | .ref a,u=>u=Value.ref a
 | .ty n,u=>u=Value.type n
noncomputable abbrev Vals:List V->List Value->Prop:=Paired RelV
theorem Vals.length{xs:List V}{us:List Value}(r:Vals xs us):xs.length=us.length:=Paired.length r
theorem Vals.get:∀{xs:List V} {us:List Value} {i:Nat} {x:V},Vals xs us->xs[i]?=some x->∃u,us[i]?=some u/\RelV x u
 | _,_,_,_,.nil,e=>by simp at e
 | _,_,0,_,.cons r _,e=>by simp at e;subst e;exact⟨_,rfl,r⟩
 | _,_,i+1,x,.cons _ t,e=>by
  obtain⟨u,h1,h2⟩:=Vals.get (i:=i) (x:=x) t (by simpa using e);exact⟨u,by simpa using h1,h2⟩
theorem Vals.append:∀{xs ys:List V} {us ws:List Value},Vals xs us->Vals ys ws->Vals (xs++ys) (us++ws)
 | _,_,_,_,.nil,s=>s
 | _,_,_,_,.cons r t,s=>.cons r (Vals.append t s)
noncomputable def RelO:Option V->Option Value->Prop
 | some v,some u=>RelV v u
 | none,none=>True
 | _,_=>False
noncomputable def KV{κ:Type}:List (κ×V)->List (κ×Value)->Prop:=Paired fun(p:κ×V) (q:κ×Value)=>p.1=q.1/\RelV p.2 q.2
noncomputable def kV:Key->V
 | .inl i=>.int i
 | .inr x=>.str x
inductive HO where
 | lst (xs:List V)
 | tup (xs:List V)
 | dK (kvs:List (Key×V)) | dT (kvs:List (List Key×V))
 | set (S:Int->Bool) (n:Nat)
 | ins (C dx:Addr) (fs:List (Str×V))
 | own (x:Addr)
 | xd (fs:List (Str×V))
 | met (f x:Addr)
 | rng (lo hi:Int)
 | frz (o:Obj) (u:HO)
 | tbl (ps:Array Value)
 | ext (φ:Heap->Prop)
noncomputable abbrev Hp:=Addr->Option HO
noncomputable def upd(H:Hp)(a:Addr)(o:HO):Hp:=fun b=>if b=a then some o else H b
theorem z6{H:Hp}{a:Addr}{o:HO}:upd H a o a=some o:=by unfold upd;rw[if_pos rfl]
theorem z9{H:Hp}{a b:Addr}{o:HO}(h:b≠a):upd H a o b=H b:=by unfold upd;rw[if_neg h]
theorem wY{H:Hp}{a:Addr}{o u:HO}:upd (upd H a o) a u=upd H a u:=by
 funext b;unfold upd;split<;>rfl
theorem z4R{H:Hp}{a b:Addr}{o u:HO}(h:H a=some o)(h':H b=some u)(d:o≠u):a≠b:=by
 intro e;subst e;rw[h]at h';exact d (Option.some.inj h')
theorem zL{H:Hp}{a b:Addr}{o:HO}(h:H a=some o)(h':H b=none):a≠b:=by
 intro e;subst e;rw[h]at h';cases h'
section
variable(P:Program)(w:World)
noncomputable def ObjOk(H:Hp)(h:Heap)(a:Addr):HO->Prop
 | .lst xs=>xs.length<=sizeLine/\∃(its:List Value) (n:Nat),Vals xs its/\h.get? a=some { cls:=.type "list",data:=.seq its.toArray n }
 | .tup xs=>(xs.length<=sizeLine/\∃o,h.get? a=some o/\o.dict=none)/\∃its:List Value,Vals xs its/\IsTup h a its.toArray
 | .dK kvs=>kvs.length<=sizeLine/\(a == sysModules)=false/\∃vs,KV kvs vs/\h.DictOf (zd P w) a vs
 | .dT kvs=>kvs.length<=sizeLine/\(a == sysModules)=false/\∃xs:List (List Key×Addr×Value),
   Paired (fun(p:List Key×V) (q:List Key×Addr×Value)=>p.1=q.1/\H q.2.1=some (.tup (p.1.map kV))/\RelV p.2 q.2.2) kvs xs/\
   ∃o es ep,h.get? a=some o/\o.ExactDict/\o.data=.dict es ep/\es.toList=xs.map (entryOfKey (tupleKind (zd P w)))/\(xs.map (·.1)).Nodup
 | .set S n=>h.SetOf (intKind P w) a S n
 | .ins C dx fs=>H dx=some (.own a)/\fs.length<=1000/\dx≠a/\h.get? a=some (W.instObj C dx)/\
   ∃mA,h.Ns1 dx mA/\(∀f,RelO (fs.lookup f) (mA f))/\PySem.Within mA (fs.map (·.1))
 | .own _=>∃o,h.get? a=some o
 | .xd fs=>∃mA,h.Ns1 a mA/\∀f,RelO (fs.lookup f) (mA f)
 | .rng lo hi=>∃t u v,h.get? a=some { cls:=.type "range",data:=.fields #[.int lo t,.int hi u,.int 1 v] }
 | .frz o u=>h.get? a=some o/\ObjOk H h a u
 | .tbl ps=>h.get? a=some { cls:=.none,data:=.fields ps }
 | .met f x=>h.get? a=some (W.methodObj (.ref f) (.ref x))
 | .ext φ=>φ h/\(∃o,h.get? a=some o)/\∀h1 h2:Heap,φ h1->(∀o,h1.get? a=some o->h2.get? a=some o)->φ h2
def HOk(H:Hp)(h:Heap):Prop:=∀a o,H a=some o->ObjOk P w H h a o
end
section
variable{P:Program}{w:World}{H H':Hp}{h h':Heap}{a:Addr}{o:HO}
theorem ObjOk.lt(x:ObjOk P w H h a o):a<h.objs.size:=by
 cases o with
 | lst xs=>obtain⟨_,_,_,_,e⟩:=x;exact Heap.lt_size e
 | tup xs=>obtain⟨_,_,_,p⟩:=x;exact p.lt
 | dK kvs=>obtain⟨_,_,_,_,o,_,_,e,_⟩:=x;exact Heap.lt_size e
 | dT kvs=>obtain⟨_,_,_,_,o,_,_,e,_⟩:=x;exact Heap.lt_size e
 | set S n=>obtain⟨o,_,_,_,e,_⟩:=x;exact Heap.lt_size e
 | ins C dx fs=>obtain⟨_,_,_,e,_⟩:=x;exact Heap.lt_size e
 | own y=>obtain⟨_,e⟩:=x;exact Heap.lt_size e
 | xd fs=>obtain⟨_,⟨_,_,_,e,_⟩,_⟩:=x;exact Heap.lt_size e
 | rng lo hi=>obtain⟨_,_,_,e⟩:=x;exact Heap.lt_size e
 | frz ob u=>obtain⟨e,_⟩:=x;exact Heap.lt_size e
 | tbl ps=>exact Heap.lt_size (show h.get? a=some _ from x)
 | met f y=>exact Heap.lt_size (show h.get? a=some _ from x)
 | ext φ=>obtain⟨_,⟨_,e⟩,_⟩:=x;exact Heap.lt_size e
theorem Paired.mapP{α β:Type}{F G:α->β->Prop}:∀{l₁:List α} {l₂:List β},Paired F l₁ l₂->(∀a b,F a b->G a b)->Paired G l₁ l₂
 | _,_,.nil,_=>.nil
 | _,_,.cons r t,f=>.cons (f _ _ r) (Paired.mapP t f)
theorem ObjOk.stay(x:ObjOk P w H h a o)(k:∀b u,(b=a\/H b=some (.own a))->h.get? b=some u->h'.get? b=some u)
  (ho:∀b,H b=some (.own a)->H' b=some (.own a)) (ht:∀b xs,H b=some (.tup xs)->H' b=some (.tup xs)):ObjOk P w H' h' a o:=by
 induction o with
 | lst xs=>obtain⟨z,its,n,r,e⟩:=x;exact⟨z,its,n,r,k _ _ (.inl rfl) e⟩
 | tup xs=>obtain⟨⟨z,o2,e2,c2⟩,its,r,ob,e,c⟩:=x;exact⟨⟨z,o2,k _ _ (.inl rfl) e2,c2⟩,its,r,ob,k _ _ (.inl rfl) e,c⟩
 | dK kvs=>obtain⟨z,y,vs,r,ob,es,ep,e,c⟩:=x;exact⟨z,y,vs,r,ob,es,ep,k _ _ (.inl rfl) e,c⟩
 | dT kvs=>
  obtain⟨z,y,xs,r,ob,es,ep,e,c⟩:=x;exact⟨z,y,xs,Paired.mapP r fun p q z=>⟨z.1,ht _ _ z.2.1,z.2.2⟩,ob,es,ep,k _ _ (.inl rfl) e,c⟩
 | set S n=>obtain⟨ob,es,ep,t,e,c⟩:=x;exact⟨ob,es,ep,t,k _ _ (.inl rfl) e,c⟩
 | ins C dx fs=>
  obtain⟨d,z,ne,e,mA,⟨od,es,ep,e2,c⟩,r⟩:=x;exact⟨ho _ d,z,ne,k _ _ (.inl rfl) e,mA,⟨od,es,ep,k _ _ (.inr d) e2,c⟩,r⟩
 | own y=>obtain⟨ob,e⟩:=x;exact⟨ob,k _ _ (.inl rfl) e⟩
 | xd fs=>obtain⟨mA,⟨od,es,ep,e,c⟩,r⟩:=x;exact⟨mA,⟨od,es,ep,k _ _ (.inl rfl) e,c⟩,r⟩
 | rng lo hi=>obtain⟨t,u,v,e⟩:=x;exact⟨t,u,v,k _ _ (.inl rfl) e⟩
 | frz ob u ih=>obtain⟨e,q⟩:=x;exact⟨k _ _ (.inl rfl) e,ih q⟩
 | tbl ps=>
  have e:h.get? a=some { cls:=.none,data:=.fields ps }:=x;show h'.get? a=some { cls:=.none,data:=.fields ps };exact k a _ (.inl rfl) e
 | met f y=>
  have e:h.get? a=some (W.methodObj (.ref f) (.ref y)):=x;show h'.get? a=some (W.methodObj (.ref f) (.ref y));exact k a _ (.inl rfl) e
 | ext φ=>obtain⟨p,⟨o,e⟩,st⟩:=x;exact⟨st _ _ p fun o q=>k _ _ (.inl rfl) q,⟨o,k _ _ (.inl rfl) e⟩,st⟩
theorem HOk.lt(x:HOk P w H h)(e:H a=some o):a<h.objs.size:=(x a o e).lt
theorem HOk.fresh(x:HOk P w H h)(e:h.objs.size<=a):H a=none:=by
 cases q:H a with
 | none=>rfl
 | some u=>exact absurd (Nat.lt_of_lt_of_le (x.lt q) e) (Nat.lt_irrefl _)
theorem HOk.kept(x:HOk P w H h)(k:∀b u,h.get? b=some u->h'.get? b=some u):HOk P w H h':=fun a o e=>
 (x a o e).stay (fun b u _ q=>k b u q) (fun _ q=>q) fun _ _ q=>q
theorem HOk.laid(x:HOk P w H h)(k:∀b u,h.get? b=some u->h'.get? b=some u)(hp:h.objs.size<=a)(new:ObjOk P w (upd H a o) h' a o):HOk P w (upd H a o) h':=fun b u e=>by
 have hn:=x.fresh hp;by_cases hb:b=a
 ·subst hb;rw[z6]at e;cases e;exact new
 ·rw[z9 hb]at e;exact(x b u e).stay (fun c v _ q=>k c v q) (fun c q=>by rw[z9 (zL q hn)];exact q) fun c xs q=>by rw[z9 (zL q hn)];exact q
end
def Rd(H:Hp)(a:Addr)(u:HO):Prop:=H a=some u\/∃o,H a=some (.frz o u)
theorem Rd.ok{P:Program}{w:World}{H:Hp}{h:Heap}{a:Addr}{u:HO}(r:Rd H a u)(x:HOk P w H h):ObjOk P w H h a u:=by
 rcases r with r | ⟨o,r⟩
 ·exact x a u r
 ·obtain⟨_,q⟩:=x a _ r;exact q
noncomputable def Mut:Option HO->Prop
 | some (.lst _)=>True
 | some (.dK _)=>True
 | some (.dT _)=>True
 | some (.set _ _)=>True
 | some (.ins _ _ _)=>True
 | some (.ext _)=>True
 | _=>False
section
variable{P:Program}{w:World}{H:Hp}{h h':Heap}{x e:Addr}{o':HO}
theorem HOk.write(ok:HOk P w H h)(mu:Mut (H x))(he:e=x\/H e=some (.own x))(k:∀b u,b≠e->h.get? b=some u->h'.get? b=some u)(heo:∃u,h'.get? e=some u)
  (new:ObjOk P w (upd H x o') h' x o'):HOk P w (upd H x o') h':=fun b u q=>by
 have nown:∀c y,H c=some (.own y)->c≠x:=fun c y r z=>by subst z;rw[r]at mu;exact mu
 have ntup:∀c xs,H c=some (.tup xs)->c≠x:=fun c xs r z=>by subst z;rw[r]at mu;exact mu
 by_cases hb:b=x
 ·subst hb;rw[z6]at q;cases q;exact new
 ·rw[z9 hb]at q;by_cases hbe:b=e
  ·have q':H b=some (.own x):=by
    rcases he with z | z
    ·exact absurd (hbe.trans z) hb
    ·rw[hbe];exact z
   rw[q]at q';cases q';obtain⟨v,hv⟩:=heo;exact⟨v,by rw[hbe];exact hv⟩
  ·refine(ok b u q).stay (fun c v hc r=>k c v ?_ r) (fun c r=>by rw[z9 (nown c b r)];exact r) fun c xs r=>by rw[z9 (ntup c xs r)];exact r
   rcases hc with rfl | hc
   ·exact hbe
   ·rintro rfl;rcases he with z | z
    ·exact nown c b hc z
    ·rw[hc]at z;cases z;exact hb rfl
end
structure Un(fs ex:List Addr)(H H':Hp)(h h':Heap):Prop where
 keep:∀b o,h.get? b=some o->H b=none->b∉fs->b∉ex->h'.get? b=some o
 slot:∀b o,h.get? b=some o->H b=none->b∈fs->b∉ex->∃sl,h'.get? b=some { o with slots:=sl }
 free:∀b o,h.get? b=some o->H b=none->b∉ex->H' b=none
 there:∀b o,h.get? b=some o->b∉ex->∃o',h'.get? b=some o'
 tups:∀b xs,H b=some (.tup xs)->H' b=some (.tup xs)
 frzs:∀b o u,H b=some (.frz o u)->H' b=some (.frz o u)
 tbls:∀b ps,H b=some (.tbl ps)->∃more,H' b=some (.tbl (ps++more))
section
variable{fs fs' ex ex':List Addr}{H H1 H2:Hp}{h h1 h2 h':Heap}{a x e:Addr}{o:HO}
theorem Un.any(u:Un fs ex H H1 h h1){b:Addr}{ob:Obj}(q:h.get? b=some ob)(n:H b=none)(hx:b∉ex):∃sl,h1.get? b=some { ob with slots:=sl }:=by
 by_cases hb:b∈fs
 ·exact u.slot b ob q n hb hx
 ·exact⟨ob.slots,u.keep b ob q n hb hx⟩
theorem Un.kept(k:∀b u,h.get? b=some u->h'.get? b=some u):Un fs ex H H h h':=
 ⟨fun b ob q _ _ _=>k b ob q,fun b ob q _ _ _=>⟨ob.slots,k b ob q⟩,fun _ _ _ n _=>n,fun b ob q _=>⟨ob,k b ob q⟩,fun _ _ q=>q,fun _ _ _ q=>q,fun _ ps q=>⟨#[],by rw[q];simp⟩⟩
theorem Un.refl:Un fs ex H H h h:=Un.kept fun _ _ q=>q
theorem Un.laid(k:∀b u,h.get? b=some u->h'.get? b=some u)(hp:h.objs.size<=a)(hn:H a=none):Un fs ex H (upd H a o) h h' where
 keep:=fun b u q _ _ _=>k b u q
 slot:=fun b u q _ _ _=>⟨u.slots,k b u q⟩
 free:=fun b u q n _=>by rw[z9 (Nat.ne_of_lt (Nat.lt_of_lt_of_le (Heap.lt_size q) hp))];exact n
 there:=fun b u q _=>⟨u,k b u q⟩
 tups:=fun b xs q=>by rw[z9 (zL q hn)];exact q
 frzs:=fun b u xs q=>by rw[z9 (zL q hn)];exact q
 tbls:=fun b ps q=>⟨#[],by rw[z9 (zL q hn),q];simp⟩
theorem Un.write(mu:Mut (H x))(he:e=x\/H e=some (.own x))(k:∀b u,b≠e->h.get? b=some u->h'.get? b=some u)(heo:∃u,h'.get? e=some u):Un fs ex H (upd H x o) h h':=by
 have hx:∀b,H b=none->b≠x:=fun b n z=>by subst z;rw[n]at mu;exact mu
 have hb:∀b,H b=none->b≠e:=fun b n z=>by
  subst z;rcases he with r | r
  ·exact hx b n r
  ·rw[n]at r;cases r
 have hm:∀b u,H b=some u->¬Mut (some u)->b≠x:=fun b u q nm z=>by subst z;rw[q]at mu;exact nm mu
 refine⟨fun b u q n _ _=>k b u (hb b n) q,fun b u q n _ _=>⟨u.slots,k b u (hb b n) q⟩,fun b u q n _=>by rw[z9 (hx b n)];exact n,fun b u q _=>?_,
  fun b xs q=>by rw[z9 (hm b _ q fun z=>z)];exact q,fun b u xs q=>by rw[z9 (hm b _ q fun z=>z)];exact q,fun b ps q=>⟨#[],by rw[z9 (hm b _ q fun z=>z),q];simp⟩⟩
 by_cases hbe:b=e
 ·subst hbe;exact heo
 ·exact⟨u,k b u hbe q⟩
end
noncomputable def trk(h:Heap)(H:Hp):List Addr:=(List.range h.objs.size).filter fun a=>(H a).isSome
noncomputable def hidT(h:Heap)(H:Hp):Heap:=W.hideAll h (trk h H)
theorem z3u(h:Heap)(H:Hp):(hidT h H).objs.size=h.objs.size:=W.hideAll_size _ _
theorem z5y{h:Heap}{H:Hp}{b:Addr}{o:Obj}(e:h.get? b=some o)(n:H b=none):(hidT h H).get? b=some o:=
 W.hideAll_get _ e fun hm=>by
  have q:(H b).isSome=true:=(List.mem_filter.mp hm).2;rw[n]at q;simp at q
theorem z6x{h:Heap}{H:Hp}{b:Addr}{o:Obj}(e:(hidT h H).get? b=some o):h.get? b=some o/\H b=none:=by
 have e':h.get? b=some o:=W.of_hideAll (trk h H) e;refine⟨e',?_⟩;cases q:H b with
 | none=>rfl
 | some x=>
  have hm:b∈trk h H:=List.mem_filter.mpr ⟨List.mem_range.mpr (Heap.lt_size e'),by simp[q]⟩;have z:(hidT h H).get? b=none:=W.hideAll_none (trk h H) hm;rw[z]at e;cases e
noncomputable def z7B(g h:Heap)(L:Addr):List (Addr×Obj):=(List.range h.objs.size).filterMap fun a=>if a=L\/(g.get? a).isSome=true then none else(h.get? a).map fun o=>(a,o)
noncomputable def rest(g h:Heap)(L d:Addr):List (Addr×Obj):=(z7B g h L).filter fun p=>decide (p.1≠d)
structure Mod(K:W.Frag)(mg:Str->Option Value)(base:Heap):Prop where
 kin:K.In base
 glob:base.Ns mainGlobals mg
 blt:∃mb,base.Ns builtinsNs mb/\∀x:Str,x≠"__name__"->mb x=bootBuiltins x
 nolimit:base.NoLimit
structure Cx where
 prog:Program
 w:World
 K:W.Frag
 mg:Str->Option Value
 base:Heap
 A:Around
 N:List Str
 s₀:Shared
 H₀:Hp
 env:Env
 outer:List Env
 stack:List Env
 ex:List Addr
 fn:Str->Bool
 calm:Bool
 pn:List (Addr×Obj)
 xe:Value->Shared->Prop
noncomputable def frs(l:List Env):List Addr:=l.filterMap (·.frame)
noncomputable abbrev Cx.fs(X:Cx):List Addr:=frs X.outer
def Vis(sc:Scope)(x:Str):Prop:=sc.names.lookup x=some .local\/sc.names.lookup x=some .cell\/sc.names.lookup x=some .free
def Loc(sc:Scope)(x:Str):Prop:=sc.names.lookup x=some .local\/sc.names.lookup x=some .cell
def Look(env:Env)(h:Heap)(m:Str->Option Value)(x:Str)(u:Value):Prop:=
 (env.kindOf x=some .local/\m x=some u)\/((env.kindOf x=some .cell\/env.kindOf x=some .free)/\∃c,env.cells.lookup x=some c/\h.IsCell c (some u))
structure Cx.Ok(X:Cx):Prop where
 mod:Mod X.K X.mg X.base
 kind:X.env.scope.kind=.function
 glob:X.env.globals=mainGlobals
 blt:X.env.builtins=builtinsNs
 above:X.s₀.heap.objs.size<=X.env.locals
 inj:∀x y c,X.env.cells.lookup x=some c->X.env.cells.lookup y=some c->x=y
 has:∀x,(X.env.kindOf x=some .cell\/X.env.kindOf x=some .free)->∃c,X.env.cells.lookup x=some c
 cab:∀x c,X.fn x=true->X.env.cells.lookup x=some c->X.s₀.heap.objs.size<=c
 hd:X.calm=true->X.A.handled=none
 frames:X.A.frames=some X.stack
 stk:X.stack=X.outer\/(X.stack=X.env::X.outer/\X.env.frame=some X.env.locals)
 exf:∀b∈X.ex,b≠X.env.locals/\∀x c,X.env.cells.lookup x=some c->c≠b
 bs:∀b o,X.base.get? b=some o->X.s₀.heap.get? b=some o/\X.H₀ b=none
 bsz:X.base.objs.size<=X.s₀.heap.objs.size
 noex:∀b o,X.base.get? b=some o->b∉X.ex
 exfs:∀b∈X.ex,b∉X.fs
 funs:X.s₀.heap.FunFrames X.base X.outer
 frf:∀b∈X.fs,X.H₀ b=none
structure Inv(X:Cx)(pins:List (Addr×Obj))(σ:List (Option V))(H:Hp)(s:Shared):Prop where
 ok:X.Ok
 os:s.os=X.s₀.os
 bare:AllBare s.gens
 base:Un X.fs X.ex X.H₀ H X.s₀.heap s.heap
 loc:∃m,s.heap.Ns X.env.locals m/\∀(i:Nat) (x:Str) (v:V),X.N[i]?=some x->σ[i]?=some (some v)->Vis X.env.scope x->∃u,RelV v u/\Look X.env s.heap m x u
 cell:∀x c,X.env.cells.lookup x=some c->∃v,s.heap.IsCell c v
 free:H X.env.locals=none
 freeC:∀x c,X.env.cells.lookup x=some c->H c=none
 pin:∀p∈X.pn++pins,s.heap.get? p.1=some p.2/\H p.1=none/\p.1≠X.env.locals/\p.1∉X.fs/\∀v,p.2.data≠.cell v
 hok:HOk X.prog X.w H s.heap
 len:σ.length=X.N.length
section
variable{X:Cx}{pins:List (Addr×Obj)}{σ:List (Option V)}{H H':Hp}{s:Shared}{h':Heap}
theorem Cx.Ok.nofr(ok:X.Ok){b:Addr}{o:Obj}(e:X.base.get? b=some o):b∉X.fs:=fun hb=>by
 have:=(ok.funs.mem hb).1;rw[e]at this;cases this
theorem Inv.bs(I:Inv X pins σ H s):∀b o,X.base.get? b=some o->s.heap.get? b=some o/\H b=none:=fun b o e=>
 ⟨I.base.keep b o (I.ok.bs b o e).1 (I.ok.bs b o e).2 (I.ok.nofr e) (I.ok.noex b o e),I.base.free b o (I.ok.bs b o e).1 (I.ok.bs b o e).2 (I.ok.noex b o e)⟩
theorem Inv.bk(I:Inv X pins σ H s):∀b o,X.base.get? b=some o->s.heap.get? b=some o:=fun b o e=>(I.bs b o e).1
theorem Inv.mod(I:Inv X pins σ H s):Mod X.K X.mg X.base:=I.ok.mod
theorem Inv.kIn(I:Inv X pins σ H s):X.K.In s.heap:=I.ok.mod.kin.keeps I.bk
theorem Inv.lt(I:Inv X pins σ H s):X.env.locals<s.heap.objs.size:=let⟨_,hn,_⟩:=I.loc;hn.lt
theorem Inv.sz(I:Inv X pins σ H s):X.s₀.heap.objs.size<=s.heap.objs.size:=Nat.le_trans I.ok.above (Nat.le_of_lt I.lt)
theorem Inv.nofs(I:Inv X pins σ H s){a:Addr}(h:s.heap.objs.size<=a):a∉X.fs:=fun hb=>by
 obtain⟨_,o,ho,_⟩:=I.ok.funs.mem hb;exact absurd (Nat.lt_of_lt_of_le (Heap.lt_size ho) (Nat.le_trans I.sz h)) (Nat.lt_irrefl _)
theorem Inv.cne(I:Inv X pins σ H s):∀x c,X.env.cells.lookup x=some c->c≠X.env.locals:=fun x c e z=>by
 obtain⟨v,o,ho,hd⟩:=I.cell x c e;obtain⟨m,⟨o',es,ep,ho',hd',_⟩,_⟩:=I.loc;rw[z,ho']at ho;cases ho;rw[hd']at hd;cases hd
theorem Inv.funs(I:Inv X pins σ H s):s.heap.FunFrames X.base X.outer:=by
 have all:∀(l:List Env),(∀b∈frs l,b∈X.fs)->X.s₀.heap.FunFrames X.base l->s.heap.FunFrames X.base l:=by
  intro l
  induction l with
  | nil=>intro _ _;trivial
  | cons env r ih=>
   intro hs hl;obtain⟨hk,⟨L,o,hf,hn,ho,hd⟩,hr⟩:=hl;have hL:L∈X.fs:=hs L (by unfold frs;rw[List.filterMap_cons,hf];exact List.mem_cons_self);obtain⟨sl,e⟩:=I.base.slot L o ho (I.ok.frf L hL) hL fun z=>I.ok.exfs L z hL;exact⟨hk,⟨L,_,hf,hn,e,hd⟩,ih (fun b hb=>hs b (by unfold frs;rw[List.filterMap_cons,hf];exact List.mem_cons_of_mem _ hb)) hr⟩
 exact all X.outer (fun _ hb=>hb) I.ok.funs
theorem Inv.stack(I:Inv X pins σ H s):s.heap.FunFrames X.base X.stack:=by
 rcases I.ok.stk with e | ⟨e,hf⟩
 ·rw[e];exact I.funs
 ·rw[e];obtain⟨m,hn,_⟩:=I.loc;refine .cons (by rw[I.ok.kind];decide) hf hn ?_ I.funs;exact Heap.get?_none_of_le (Nat.le_trans I.ok.bsz I.ok.above)
theorem Inv.stkSub(I:Inv X pins σ H s):∀b∈frs X.stack,b∈X.env.locals::X.fs:=fun b hb=>by
 rcases I.ok.stk with e | ⟨e,hf⟩
 ·rw[e]at hb;exact List.mem_cons_of_mem _ hb
 ·rw[e]at hb;unfold frs at hb;rw[List.filterMap_cons,hf]at hb;exact hb
theorem Inv.stkFree(I:Inv X pins σ H s):∀b∈frs X.stack,H b=none:=fun b hb=>by
 rcases List.mem_cons.mp (I.stkSub b hb)with e | hb
 ·rw[e];exact I.free
 ·obtain⟨_,o,ho,_⟩:=I.ok.funs.mem hb;exact I.base.free b o ho (I.ok.frf b hb) fun z=>I.ok.exfs b z hb
theorem Inv.step{g':Array GenState}{t':Nat}{d':Drawn}{ch:List Addr}(I:Inv X pins σ H s)
  (hch:∀b∈ch,(b∈X.ex\/X.s₀.heap.objs.size<=b)/\b≠X.env.locals/\(∀x c,X.env.cells.lookup x=some c->c≠b)/\∀p∈X.pn++pins,p.1≠b)
  (keep:∀b o,b≠X.env.locals->b∉X.fs->b∉ch->s.heap.get? b=some o->H b=none->h'.get? b=some o)
  (slot:∀b o,b≠X.env.locals->b∈X.fs->b∉ch->s.heap.get? b=some o->H b=none->∃sl,h'.get? b=some { o with slots:=sl }) (free:∀b o,b∉ch->s.heap.get? b=some o->H b=none->H' b=none)
  (there:∀b o,b∉ch->s.heap.get? b=some o->∃o',h'.get? b=some o')
  (tups:∀b xs,H b=some (.tup xs)->H' b=some (.tup xs)) (frzs:∀b o u,H b=some (.frz o u)->H' b=some (.frz o u)) (tbls:∀b ps,H b=some (.tbl ps)->∃more,H' b=some (.tbl (ps++more)))
  (ns:∀m,s.heap.Ns X.env.locals m->h'.Ns X.env.locals m) (hok:HOk X.prog X.w H' h') (hg:AllBare g') :
  Inv X pins σ H' { s with heap:=h',gens:=g',drawn:=d',toks:=t' }:=by
 have neL:∀b o,X.s₀.heap.get? b=some o->b≠X.env.locals:=fun b o e=>Nat.ne_of_lt (Nat.lt_of_lt_of_le (Heap.lt_size e) I.ok.above);have neC:∀b o,X.s₀.heap.get? b=some o->b∉X.ex->b∉ch:=fun b o e hx hb=>by
  rcases(hch b hb).1 with z | z
  ·exact hx z
  ·exact absurd (Nat.lt_of_lt_of_le (Heap.lt_size e) z) (Nat.lt_irrefl _)
 have cellK:∀x c,X.env.cells.lookup x=some c->∀v,s.heap.IsCell c v->h'.IsCell c v:=fun x c e v ⟨o,ho,hd⟩=>by
  have nch:c∉ch:=fun z=>(hch c z).2.2.1 x c e rfl;by_cases hc:c∈X.fs
  ·obtain⟨sl,q⟩:=slot c o (I.cne x c e) hc nch ho (I.freeC x c e);exact⟨_,q,hd⟩
  ·exact⟨o,keep c o (I.cne x c e) hc nch ho (I.freeC x c e),hd⟩
 refine⟨I.ok,I.os,hg,⟨fun b o e n hb hx=>?_,fun b o e n hb hx=>?_,fun b o e n hx=>?_,fun b o e hx=>?_,fun b xs e=>tups b xs (I.base.tups b xs e),fun b o xs e=>frzs b o xs (I.base.frzs b o xs e),fun b ps e=>?_⟩,?_,fun x c e=>?_,?_,fun x c e=>?_,fun p hp=>?_,hok,I.len⟩
 ·exact keep b o (neL b o e) hb (neC b o e hx) (I.base.keep b o e n hb hx) (I.base.free b o e n hx)
 ·obtain⟨sl,e1⟩:=I.base.slot b o e n hb hx;obtain⟨sl',e2⟩:=slot b _ (neL b o e) hb (neC b o e hx) e1 (I.base.free b o e n hx);exact⟨sl',e2⟩
 ·obtain⟨o',e1⟩:=I.base.there b o e hx;exact free b o' (neC b o e hx) e1 (I.base.free b o e n hx)
 ·obtain⟨o',e1⟩:=I.base.there b o e hx;exact there b o' (neC b o e hx) e1
 ·obtain⟨m1,e1⟩:=I.base.tbls b ps e;obtain⟨m2,e2⟩:=tbls b _ e1;exact⟨m1++m2,by rw[e2,Array.append_assoc]⟩
 ·obtain⟨m,hn,hl⟩:=I.loc;refine⟨m,ns m hn,fun i x v e1 e2 e3=>?_⟩;obtain⟨u,r,l⟩:=hl i x v e1 e2 e3;refine⟨u,r,?_⟩;rcases l with l | ⟨k,c,e,z⟩
  ·exact .inl l
  ·exact .inr ⟨k,c,e,cellK x c e _ z⟩
 ·obtain⟨v,z⟩:=I.cell x c e;exact⟨v,cellK x c e v z⟩
 ·obtain⟨m,⟨o,_,_,ho,_⟩,_⟩:=I.loc;exact free _ o (fun z=>(hch _ z).2.1 rfl) ho I.free
 ·obtain⟨v,o,ho,hd⟩:=I.cell x c e;exact free c o (fun z=>(hch c z).2.2.1 x c e rfl) ho (I.freeC x c e)
 ·obtain⟨e,n,ne,nf,d⟩:=I.pin p hp;have nch:p.1∉ch:=fun z=>(hch p.1 z).2.2.2 p hp rfl;exact⟨keep p.1 p.2 ne nf nch e n,free p.1 p.2 nch e n,ne,nf,d⟩
theorem Inv.un{t':Nat}(I:Inv X pins σ H s)(u:Un X.fs [] H H' s.heap h')(hok:HOk X.prog X.w H' h'):Inv X pins σ H' { s with heap:=h',toks:=t' }:=by
 obtain⟨m,⟨o,es,ep,ho,r⟩,_⟩:=id I.loc;obtain⟨sl,hL⟩:=u.any ho I.free (by simp);exact I.step (g':=s.gens) (d':=s.drawn) (ch:=[]) (fun _ z=>nomatch z) (fun b o _ hb _ e n=>u.keep b o e n hb (by simp)) (fun b o _ hb _ e n=>u.slot b o e n hb (by simp)) (fun b o _ e n=>u.free b o e n (by simp)) (fun b o _ e=>u.there b o e (by simp)) u.tups u.frzs u.tbls (fun m' hm=>by
  obtain⟨o',es',ep',ho',r'⟩:=hm;rw[ho]at ho';cases ho';exact⟨_,es',ep',hL,r'⟩) hok I.bare
theorem Inv.call{g':Array GenState}{t':Nat}{d':Drawn}{ch:List Addr}(I:Inv X pins σ H s)(u:Un (frs X.stack) ch H H' s.heap h')(hok:HOk X.prog X.w H' h')(hg:AllBare g')
  (hch:∀b∈ch,(b∈X.ex\/X.s₀.heap.objs.size<=b)/\b≠X.env.locals/\(∀x c,X.env.cells.lookup x=some c->c≠b)/\∀p∈X.pn++pins,p.1≠b) :
  Inv X pins σ H' { s with heap:=h',gens:=g',drawn:=d',toks:=t' }:=by
 obtain⟨m,⟨o,es,ep,ho,r⟩,_⟩:=id I.loc;obtain⟨sl,hL⟩:=u.any ho I.free fun z=>(hch _ z).2.1 rfl;exact I.step (ch:=ch) hch (fun b o hL hb hc e n=>u.keep b o e n (fun z=>(List.mem_cons.mp (I.stkSub b z)).elim hL hb) hc) (fun b o _ _ hc e n=>u.any e n hc) (fun b o hc e n=>u.free b o e n hc) (fun b o hc e=>u.there b o e hc) u.tups u.frzs u.tbls (fun m' hm=>by
  obtain⟨o',es',ep',ho',r'⟩:=hm;rw[ho]at ho';cases ho';exact⟨_,es',ep',hL,r'⟩) hok hg
theorem Inv.turned{t':Nat}{it:Addr}(I:Inv X pins σ H s)(k:∀b o,b≠it->s.heap.get? b=some o->h'.get? b=some o)(hn:H it=none)(hL:it≠X.env.locals)
  (h1:it∈X.ex\/X.s₀.heap.objs.size<=it) (h2:∀x c,X.env.cells.lookup x=some c->c≠it) (h3:∀p∈X.pn++pins,p.1≠it):Inv X pins σ H { s with heap:=h',toks:=t' }:=by
 have nit:∀b u,H b=some u->b≠it:=fun b u e z=>by rw[z,hn]at e;cases e
 refine I.step (g':=s.gens) (d':=s.drawn) (ch:=[it]) (fun b hb=>?_) (fun b o _ _ hc e _=>k b o (fun z=>hc (by simp[z])) e) (fun b o _ _ hc e _=>⟨o.slots,k b o (fun z=>hc (by simp[z])) e⟩) (fun _ _ _ _ n=>n)
  (fun b o hc e=>⟨o,k b o (fun z=>hc (by simp[z])) e⟩) (fun _ _ e=>e) (fun _ _ _ e=>e) (fun b ps e=>⟨#[],by rw[e];simp⟩) (fun m hm=>?_) (fun b u e=>?_) I.bare
 ·have e:b=it:=by simpa using hb
  subst e;exact⟨h1,hL,h2,h3⟩
 ·obtain⟨o,es,ep,ho,r⟩:=hm;exact⟨o,es,ep,k _ o (Ne.symm hL) ho,r⟩
 ·refine(I.hok b u e).stay (fun c v hc q=>k c v ?_ q) (fun _ q=>q) fun _ _ q=>q;rcases hc with z | z
  ·rw[z];exact nit b u e
  ·exact nit c _ z
theorem Inv.tok(I:Inv X pins σ H s)(t:Nat):Inv X pins σ H { s with toks:=t }:=I.un (h':=s.heap) (t':=t) Un.refl I.hok
theorem Inv.kept{t':Nat}(I:Inv X pins σ H s)(k:∀b u,s.heap.get? b=some u->h'.get? b=some u):Inv X pins σ H { s with heap:=h',toks:=t' }:=I.un (Un.kept k) (I.hok.kept k)
theorem Inv.laid{a:Addr}{o:HO}{t':Nat}(I:Inv X pins σ H s)(k:∀b u,s.heap.get? b=some u->h'.get? b=some u)(hp:s.heap.objs.size<=a)(new:ObjOk X.prog X.w (upd H a o) h' a o):
  Inv X pins σ (upd H a o) { s with heap:=h',toks:=t' }:=I.un (Un.laid k hp (I.hok.fresh hp)) (I.hok.laid k hp new)
theorem Inv.write{x e:Addr}{o:HO}{t':Nat}(I:Inv X pins σ H s)(mu:Mut (H x))(he:e=x\/H e=some (.own x))(k:∀b u,b≠e->s.heap.get? b=some u->h'.get? b=some u)(heo:∃u,h'.get? e=some u)
  (new:ObjOk X.prog X.w (upd H x o) h' x o):Inv X pins σ (upd H x o) { s with heap:=h',toks:=t' }:=I.un (Un.write mu he k heo) (I.hok.write mu he k heo new)
theorem Inv.weak{σ':List (Option V)}(I:Inv X pins σ H s)(hl:σ'.length=σ.length)(w:∀(i:Nat) v,σ'[i]?=some (some v)->σ[i]?=some (some v)):Inv X pins σ' H s:=
 ⟨I.ok,I.os,I.bare,I.base,let⟨m,hn,hl'⟩:=I.loc;⟨m,hn,fun i x v e1 e2 e3=>hl' i x v e1 (w i v e2) e3⟩,I.cell,I.free,I.freeC,I.pin,I.hok,hl.trans I.len⟩
theorem Inv.pins_of{pins':List (Addr×Obj)}(I:Inv X pins σ H s)(h:∀p∈pins',s.heap.get? p.1=some p.2/\H p.1=none/\p.1≠X.env.locals/\p.1∉X.fs/\∀v,p.2.data≠.cell v):Inv X pins' σ H s:=
 ⟨I.ok,I.os,I.bare,I.base,I.loc,I.cell,I.free,I.freeC,fun p hp=>(List.mem_append.mp hp).elim (fun z=>I.pin p (List.mem_append_left _ z)) (h p),I.hok,I.len⟩
theorem z2P{N:List Str}(hN:N.Nodup){i j:Nat}{x:Str}(a:N[i]?=some x)(b:N[j]?=some x):i=j:=by
 obtain⟨h1,e1⟩:=List.getElem?_eq_some_iff.mp a;obtain⟨h2,e2⟩:=List.getElem?_eq_some_iff.mp b;exact(List.getElem_inj hN).mp (e1.trans e2.symm)
theorem z1A{M:Model}{A:Around}{E:Value->Shared->Prop}{i:Nat}{x:Str}{v:V}{u:Value}{Q:Unit->Shared->Prop}(I:Inv X pins σ H s)(hN:X.N.Nodup)(hi:X.N[i]?=some x)(hx:Loc X.env.scope x)(r:RelV v u)
  (h:∀s',Inv X pins (σ.set i (some v)) H s'->(∃a,Heap.SameBut a s.heap s'.heap/\(a=X.env.locals\/X.env.cells.lookup x=some a))->Q () s') (hf:X.fn x=true\/X.env.scope.names.lookup x=some .local:=by first | exact .inl rfl | exact .inr rfl | assumption):wpAny M A (storeName X.env x u) Q E s:=by
 obtain⟨m,hn,hl⟩:=id I.loc;have hcls:(X.env.scope.kind == .class || (X.env.scope.kind == .module && X.env.locals != X.env.globals))=false:=by rw[I.ok.kind];rfl
 have hiσ:i<σ.length:=by rw[I.len];exact(List.getElem?_eq_some_iff.mp hi).1
 have cne:=I.cne;have tracked:∀{a:Addr} {h':Heap},(∃o,s.heap.get? a=some o/\H a=none)->Heap.SameBut a s.heap h'->HOk X.prog X.w H h':=fun{a h'} ha hs b ob e=>by
  obtain⟨_,_,hfree⟩:=ha;refine(I.hok b ob e).stay (fun c w' hc q=>(hs.2 c ?_).trans q) (fun _ q=>q) fun _ _ q=>q;rintro rfl;rcases hc with rfl | hc
  ·rw[hfree]at e;cases e
  ·rw[hfree]at hc;cases hc
 rcases hx with hk | hk
 ·refine wpAny_storeName_local hk hn (fun h' hn' hs=>?_) hcls;obtain⟨oL,_,_,hoL,_⟩:=id hn;refine h _ ⟨I.ok,I.os,I.bare,⟨fun b o e n hb hx=>?_,fun b o e n hb hx=>?_,I.base.free,fun b o e hx=>?_,I.base.tups,I.base.frzs,I.base.tbls⟩,⟨_,hn',fun j y v' e1 e2 e3=>?_⟩,fun y c e=>?_,I.free,I.freeC,fun p hp=>?_,tracked ⟨oL,hoL,I.free⟩ hs,by simpa using I.len⟩ ⟨_,hs,.inl rfl⟩
  ·exact(hs.2 b (Nat.ne_of_lt (Nat.lt_of_lt_of_le (Heap.lt_size e) I.ok.above))).trans (I.base.keep b o e n hb hx)
  ·obtain⟨sl,e1⟩:=I.base.slot b o e n hb hx;exact⟨sl,(hs.2 b (Nat.ne_of_lt (Nat.lt_of_lt_of_le (Heap.lt_size e) I.ok.above))).trans e1⟩
  ·obtain⟨o',e1⟩:=I.base.there b o e hx;exact⟨o',(hs.2 b (Nat.ne_of_lt (Nat.lt_of_lt_of_le (Heap.lt_size e) I.ok.above))).trans e1⟩
  ·by_cases hj:j=i
   ·subst hj;rw[hi]at e1;cases e1;rw[List.getElem?_set_self hiσ]at e2;cases e2;exact⟨u,r,.inl ⟨hk,by simp⟩⟩
   ·rw[List.getElem?_set_ne (Ne.symm hj)]at e2;obtain⟨u',r',q⟩:=hl j y v' e1 e2 e3;refine⟨u',r',?_⟩;rcases q with ⟨k,e⟩ | ⟨k,c,e,z⟩
    ·refine .inl ⟨k,?_⟩
     have:y≠x:=fun e=>hj (z2P hN e1 (e▸hi));simp[this,e]
    ·exact .inr ⟨k,c,e,z.sameBut hs (cne y c e)⟩
  ·obtain⟨w',z⟩:=I.cell y c e;exact⟨w',z.sameBut hs (cne y c e)⟩
  ·obtain⟨e,n,ne,nf,d⟩:=I.pin p hp;exact⟨(hs.2 p.1 ne).trans e,n,ne,nf,d⟩
 ·have hfn:X.fn x=true:=by
   rcases hf with z | z
   ·exact z
   ·rw[z]at hk;cases hk
  obtain⟨c,hc⟩:=I.ok.has x (.inl hk);obtain⟨w',z⟩:=I.cell x c hc;refine wpAny_storeName_cell I.ok.kind hk hc z (fun h' hc' hs=>?_);obtain⟨oc,hoc,hocd⟩:=id z;refine h { s with heap:=h' } ⟨I.ok,I.os,I.bare,⟨fun b o e n hb hx=>?_,fun b o e n hb hx=>?_,I.base.free,fun b o e hx=>?_,I.base.tups,I.base.frzs,I.base.tbls⟩,⟨m,hn.sameBut hs (Ne.symm (cne x c hc)),fun j y v' e1 e2 e3=>?_⟩,fun y c' e=>?_,I.free,I.freeC,fun p hp=>?_,tracked ⟨oc,hoc,I.freeC x c hc⟩ hs,by simpa using I.len⟩ ⟨c,hs,.inr hc⟩
  ·exact(hs.2 b (Nat.ne_of_lt (Nat.lt_of_lt_of_le (Heap.lt_size e) (I.ok.cab x c hfn hc)))).trans (I.base.keep b o e n hb hx)
  ·obtain⟨sl,e1⟩:=I.base.slot b o e n hb hx;exact⟨sl,(hs.2 b (Nat.ne_of_lt (Nat.lt_of_lt_of_le (Heap.lt_size e) (I.ok.cab x c hfn hc)))).trans e1⟩
  ·obtain⟨o',e1⟩:=I.base.there b o e hx;exact⟨o',(hs.2 b (Nat.ne_of_lt (Nat.lt_of_lt_of_le (Heap.lt_size e) (I.ok.cab x c hfn hc)))).trans e1⟩
  ·by_cases hj:j=i
   ·subst hj;rw[hi]at e1;cases e1;rw[List.getElem?_set_self hiσ]at e2;cases e2;exact⟨u,r,.inr ⟨.inl hk,c,hc,hc'⟩⟩
   ·rw[List.getElem?_set_ne (Ne.symm hj)]at e2;obtain⟨u',r',q⟩:=hl j y v' e1 e2 e3;refine⟨u',r',?_⟩;rcases q with q | ⟨k,c',e,z'⟩
    ·exact .inl q
    ·refine .inr ⟨k,c',e,z'.sameBut hs ?_⟩;rintro rfl;exact hj (z2P hN e1 (I.ok.inj _ _ _ e hc▸hi))
  ·by_cases hcc:c'=c
   ·subst hcc;exact⟨_,hc'⟩
   ·obtain⟨w2,z2⟩:=I.cell y c' e;exact⟨w2,z2.sameBut hs hcc⟩
  ·obtain⟨e,n,ne,nf,d⟩:=I.pin p hp;refine⟨(hs.2 p.1 ?_).trans e,n,ne,nf,d⟩;intro q;rw[q,hoc]at e;have q':oc=p.2:=Option.some.inj e;exact d w' (by rw[<-q'];exact hocd)
theorem wM{M:Model}{A:Around}{E:Value->Shared->Prop}{i:Nat}{x:Str}{v:V}{u:Value}{Q:Unit->Shared->Prop}(I:Inv X pins σ H s)(hN:X.N.Nodup)(hi:X.N[i]?=some x)(hx:Loc X.env.scope x)(r:RelV v u)
  (h:∀s',Inv X pins (σ.set i (some v)) H s'->Q () s') (hf:X.fn x=true\/X.env.scope.names.lookup x=some .local:=by first | exact .inl rfl | exact .inr rfl | assumption):wpAny M A (storeName X.env x u) Q E s:=
 z1A I hN hi hx r (fun s' I' _=>h s' I') hf
theorem Inv.call'{s':Shared}{ch:List Addr}(I:Inv X pins σ H s)(ho:s'.os=s.os)(u:Un (frs X.stack) ch H H' s.heap s'.heap)(hok:HOk X.prog X.w H' s'.heap)(hg:AllBare s'.gens)
  (hch:∀b∈ch,(b∈X.ex\/X.s₀.heap.objs.size<=b)/\b≠X.env.locals/\(∀x c,X.env.cells.lookup x=some c->c≠b)/\∀p∈X.pn++pins,p.1≠b):Inv X pins σ H' s':=by
 obtain⟨h',g',d',t',o'⟩:=s';have e:o'=s.os:=ho;subst e;exact I.call (g':=g') (t':=t') (d':=d') u hok hg hch
end
noncomputable abbrev XK:=Value->Option Addr->Hp->Prop
noncomputable abbrev St:=List (Option V)
noncomputable abbrev VK:=V->Hp->Prop
noncomputable abbrev TE:=St->Hp->VK->Prop
noncomputable abbrev TT:=St->Hp->(Bool->Hp->Prop)->Prop
noncomputable abbrev TA:=St->Hp->(List V->Hp->Prop)->Prop
structure Ends where
 nx:St->Hp->Prop
 rt:VK
 bk:St->Hp->Prop:=fun _ _=>False
 ct:St->Hp->Prop:=fun _ _=>False
noncomputable abbrev TS:=Ends->St->Hp->Prop
def EP(X:Cx)(pins:List (Addr×Obj))(σ:St)(Q:VK)(u:Value)(s':Shared):Prop:=∃v H',Inv X pins σ H' s'/\RelV v u/\Q v H'
def TP(X:Cx)(pins:List (Addr×Obj))(σ:St)(Q:Bool->Hp->Prop)(b:Bool)(s':Shared):Prop:=∃H',Inv X pins σ H' s'/\Q b H'
def AP(X:Cx)(pins:List (Addr×Obj))(σ:St)(Q:List V->Hp->Prop)(us:List Value)(s':Shared):Prop:=∃vs H',Inv X pins σ H' s'/\Vals vs us/\Q vs H'
def SP(X:Cx)(pins:List (Addr×Obj))(D:Ends)(f:Flow)(s':Shared):Prop:=
 match f with
 | .next=>∃σ' H',Inv X pins σ' H' s'/\D.nx σ' H'
 | .brk=>∃σ' H',Inv X pins σ' H' s'/\D.bk σ' H'
 | .cont=>∃σ' H',Inv X pins σ' H' s'/\D.ct σ' H'
 | .ret u=>∃v σ' H',Inv X pins σ' H' s'/\RelV v u/\D.rt v H'
def PE(X:Cx)(e:Expr)(t:TE):Prop:=
 ∀(pins:List (Addr×Obj)) (s:Shared) (σ:St) (H:Hp) (Q:VK),Inv X pins σ H s->t σ H Q->wpAny (model X.prog X.w) X.A (eval e X.env) (EP X pins σ Q) X.xe s
def PT(X:Cx)(e:Expr)(t:TT):Prop:=
 ∀(pins:List (Addr×Obj)) (s:Shared) (σ:St) (H:Hp) (Q:Bool->Hp->Prop),Inv X pins σ H s->t σ H Q->wpAny (model X.prog X.w) X.A (isTrue e X.env (eval e X.env)) (TP X pins σ Q) X.xe s
def PW(X:Cx)(e:Expr)(t:TT):Prop:=
 ∀(whole:Sem Value) (pins:List (Addr×Obj)) (s:Shared) (σ:St) (H:Hp) (Q:Bool->Hp->Prop),Inv X pins σ H s->t σ H Q->wpAny (model X.prog X.w) X.A (isTrue e X.env whole) (TP X pins σ Q) X.xe s
theorem PW.pt{X:Cx}{e:Expr}{t:TT}(h:PW X e t):PT X e t:=h _
def PA(X:Cx)(es:List Expr)(t:TA):Prop:=
 ∀(pos:Pos) (pins:List (Addr×Obj)) (s:Shared) (σ:St) (H:Hp) (Q:List V->Hp->Prop),Inv X pins σ H s->t σ H Q->wpAny (model X.prog X.w) X.A (spliced (backTo pos (starEach es X.env))) (AP X pins σ Q) X.xe s
def PS(X:Cx)(st:Stmt)(t:TS):Prop:=
 ∀(pins:List (Addr×Obj)) (s:Shared) (σ:St) (H:Hp) (D:Ends),Inv X pins σ H s->t D σ H->wpAny (model X.prog X.w) X.A (exec st X.env) (SP X pins D) X.xe s
def PSs(X:Cx)(st:List Stmt)(t:TS):Prop:=
 ∀(pins:List (Addr×Obj)) (s:Shared) (σ:St) (H:Hp) (D:Ends),Inv X pins σ H s->t D σ H->wpAny (model X.prog X.w) X.A (execs st X.env) (SP X pins D) X.xe s
theorem thn{α:Type}{t:Sem α}{Q Q':α->Shared->Prop}{M:Model}{A:Around}{E:Value->Shared->Prop}{s:Shared}(h:wpAny M A t Q E s)(hQ:∀a s,Q a s->Q' a s):wpAny M A t Q' E s:=wpAny_mono h hQ fun _ _ x=>x
section
variable{X:Cx}
noncomputable def tVar(i:Nat):TE:=fun σ H Q=>∃v,σ[i]?=some (some v)/\Q v H
noncomputable def tC(v:V):TE:=fun _ H Q=>Q v H
theorem z80{i:Nat}{x:Str}{pos:Pos}(hN:X.N[i]?=some x)(hv:Vis X.env.scope x)(hd:(x == ("__debug__":Str))=false:=by decide)(hcd:(x == ("__classdict__":Str))=false:=by decide):PE X (.Name x pos) (tVar i):=by
 intro pins s σ H Q I h;obtain⟨v,e,h⟩:=h;obtain⟨m,hn,hl⟩:=I.loc;obtain⟨u,r,l⟩:=hl i x v hN e hv;have fin:EP X pins σ Q u s:=⟨v,H,I,r,h⟩;rcases l with ⟨hk,hm⟩ | ⟨hk,c,hc,hcell⟩
 ·exact wpAny_Name (wpAny_loadName_local I.ok.kind hk hn hm fin) hd
 ·rcases hk with hk | hk
  ·exact wpAny_Name (wpAny_loadName_cell I.ok.kind hk hc hcell fin) hd
  ·exact wpAny_Name (wpAny_loadName_free I.ok.kind hk hc hcell fin hcd) hd
theorem xQ{i j pos}:PE X (.Constant (.int i) j pos) (tC (.int i)):=fun _ _ _ H _ I h=>wpAny_Constant_int ⟨.int i,H,I.tok _,⟨_,rfl⟩,h⟩
theorem z8W{b j pos}:PE X (.Constant (.bool b) j pos) (tC (.bl b)):=fun _ _ _ H _ I h=>Constant_bool ⟨.bl b,H,I,rfl,h⟩
theorem z87{j pos}:PE X (.Constant .none j pos) (tC .non):=fun _ _ _ H _ I h=>Constant_none ⟨.non,H,I,rfl,h⟩
def Gl(X:Cx)(x:Str):Prop:=X.env.kindOf x=some .globalImplicit
theorem z4S{E:Value->Shared->Prop}{pins:List (Addr×Obj)}{s:Shared}{σ:St}{H:Hp}{x:Str}{u:Value}{pos:Pos}{Q:Value->Shared->Prop}(I:Inv X pins σ H s)(hg:Gl X x)(hm:X.mg x=some u)(h:Q u s)
  (hd:(x == ("__debug__":Str))=false:=by decide):wpAny (model X.prog X.w) X.A (eval (.Name x pos) X.env) Q E s:=
 Calls.Name_function_global I.ok.kind hg (Calls.loadGlobal_global (by rw[I.ok.glob];exact I.mod.glob.keeps I.bk) hm h) hd
theorem wZ{E:Value->Shared->Prop}{pins:List (Addr×Obj)}{s:Shared}{σ:St}{H:Hp}{x:Str}{u:Value}{pos:Pos}{Q:Value->Shared->Prop}(I:Inv X pins σ H s)(hg:Gl X x)(hm:X.mg x=none)(hv:bootBuiltins x=some u)(h:Q u s)
  (hn:x≠"__name__":=by decide) (hd:(x == ("__debug__":Str))=false:=by decide):wpAny (model X.prog X.w) X.A (eval (.Name x pos) X.env) Q E s:=by
 obtain⟨mb,h1,h2⟩:=I.mod.blt;exact Calls.Name_function_global I.ok.kind hg (Calls.loadGlobal_builtin (by rw[I.ok.glob];exact I.mod.glob.keeps I.bk) hm (by rw[I.ok.blt];exact h1.keeps I.bk) ((h2 x hn).trans hv) h) hd
theorem z0Q{x:Str}{v:V}{u:Value}{pos:Pos}(hg:Gl X x)(hm:X.mg x=some u)(r:RelV v u)(hd:(x == ("__debug__":Str))=false:=by decide):PE X (.Name x pos) (tC v):=
 fun _ _ _ H _ I h=>z4S I hg hm ⟨v,H,I,r,h⟩ hd
theorem u6{x:Str}{v:V}{u:Value}{pos:Pos}(hg:Gl X x)(hm:X.mg x=none)(hv:bootBuiltins x=some u)(r:RelV v u)(hn:x≠"__name__":=by decide)(hd:(x == ("__debug__":Str))=false:=by decide):PE X (.Name x pos) (tC v):=
 fun _ _ _ H _ I h=>wZ I hg hm hv ⟨v,H,I,r,h⟩ hn hd
variable{a b:Expr}{ta tb:TE}{pos:Pos}
variable{tA tB':TT}{rest:List Expr}
noncomputable def tAnd(t u:TT):TT:=fun σ H Q=>t σ H fun c H1=>if c=true then u σ H1 Q else Q false H1
noncomputable def tOr(t u:TT):TT:=fun σ H Q=>t σ H fun c H1=>if c=true then Q true H1 else u σ H1 Q
noncomputable def tNot(t:TT):TT:=fun σ H Q=>t σ H fun c H1=>Q (!c) H1
theorem z6k(ha:PT X a tA):PW X (.BoolOp .And [a] pos) tA:=by
 intro wh pins s σ H Q I h;refine isTrue_and (thn (ha pins s σ H Q I h) fun c s1 e=>?_);cases c with
 | true=>exact isTrue_and_nil e
 | false=>exact e
theorem z7j(ha:PT X a tA):PW X (.BoolOp .Or [a] pos) tA:=by
 intro wh pins s σ H Q I h;refine isTrue_or (thn (ha pins s σ H Q I h) fun c s1 e=>?_);cases c with
 | false=>exact isTrue_or_nil e
 | true=>exact e
theorem z8D(ha:PT X a tA)(hb:PW X (.BoolOp .And (b::rest) pos) tB'):PW X (.BoolOp .And (a::b::rest) pos) (tAnd tA tB'):=by
 intro wh pins s σ H Q I h;refine isTrue_and (thn (ha pins s σ H _ I h) fun c s1 ⟨H1,I1,q1⟩=>?_);cases c with
 | true=>exact hb wh pins s1 σ H1 Q I1 q1
 | false=>exact⟨H1,I1,q1⟩
theorem z8u(ha:PT X a tA)(hb:PW X (.BoolOp .Or (b::rest) pos) tB'):PW X (.BoolOp .Or (a::b::rest) pos) (tOr tA tB'):=by
 intro wh pins s σ H Q I h;refine isTrue_or (thn (ha pins s σ H _ I h) fun c s1 ⟨H1,I1,q1⟩=>?_);cases c with
 | true=>exact⟨H1,I1,q1⟩
 | false=>exact hb wh pins s1 σ H1 Q I1 q1
theorem z7k(ha:PT X a tA):PT X (.UnaryOp .Not a pos) (tNot tA):=by
 intro pins s σ H Q I h;exact isTrue_not (ha pins s σ H (fun c H1=>Q (!c) H1) I h)
noncomputable def z8d(ta tb:TE):TE:=fun σ H Q=>ta σ H fun x H1=>∃c,x=.bl c/\if c=true then tb σ H1 Q else Q (.bl false) H1
theorem z8G{op}{t:TE}(h:PE X a t):PE X (.BoolOp op [a] pos) t:=fun pins s σ H Q I hw=>BoolOp_one (h pins s σ H Q I hw)
theorem z7I(ha:PE X a ta)(hb:PE X (.BoolOp .And (b::rest) pos) tb):PE X (.BoolOp .And (a::b::rest) pos) (z8d ta tb):=by
 intro pins s σ H Q I h;refine BoolOp_and (thn (ha pins s σ H _ I h) fun v s1 ⟨x,H1,I1,r1,q1⟩=>?_);obtain⟨c,rfl,q1⟩:=q1;cases r1;refine wpAny_truthy_bool ?_;cases c with
 | true=>exact hb pins s1 σ H1 Q I1 q1
 | false=>exact⟨.bl false,H1,I1,rfl,q1⟩
noncomputable def tIf(t:TT)(ta tb:TE):TE:=fun σ H Q=>t σ H fun c H1=>if c=true then ta σ H1 Q else tb σ H1 Q
theorem z2d{c:Expr}(hc:PT X c tA)(ha:PE X a ta)(hb:PE X b tb):PE X (.IfExp c a b pos) (tIf tA ta tb):=by
 intro pins s σ H Q I h;refine wpAny_IfExp (thn (hc pins s σ H _ I h) fun d s1 ⟨H1,I1,q1⟩=>?_);cases d with
 | true=>exact ha pins s1 σ H1 Q I1 q1
 | false=>exact hb pins s1 σ H1 Q I1 q1
end
def SqL(K:W.Frag)(H:Hp)(a:Addr)(xs:List V):Prop:=
 Rd H a (.lst xs)\/
  ∃(o:Obj) (its:Array Value) (n:Nat),K.lookup a=some o/\o.cls=.type "list"/\o.dict=none/\o.data=.seq its n/\its.size<=sizeLine/\Vals xs its.toList
def SqT(K:W.Frag)(H:Hp)(a:Addr)(xs:List V):Prop:=
 Rd H a (.tup xs)\/
  ∃(o:Obj) (its:Array Value) (n:Nat),K.lookup a=some o/\o.cls=.type "tuple"/\o.data=.seq its n/\its.size<=sizeLine/\Vals xs its.toList
noncomputable def absV:Value->Option V
 | .none=>some .non
 | .bool b=>some (.bl b)
 | .int i _=>some (.int i)
 | .str x _=>some (.str x)
 | .bytes b _=>some (.byt b)
 | .float b _=>some (.flt b)
 | .ref a=>some (.ref a)
 | .type n=>some (.ty n)
 | _=>none
theorem RelV.abs{x:V}{u:Value}(r:RelV x u):absV u=some x:=by
 cases x with
 | non=>cases r;rfl
 | bl _=>cases r;rfl
 | int _=>obtain⟨t,rfl⟩:=r;rfl
 | str _=>obtain⟨t,rfl⟩:=r;rfl
 | byt _=>obtain⟨t,rfl⟩:=r;rfl
 | flt _=>obtain⟨t,rfl⟩:=r;rfl
 | ref _=>cases r;rfl
 | ty _=>cases r;rfl
theorem RelV.inj{x y:V}{u:Value}(r:RelV x u)(q:RelV y u):x=y:=Option.some.inj (r.abs.symm.trans q.abs)
theorem Vals.inj:∀{xs ys:List V} {us:List Value},Vals xs us->Vals ys us->xs=ys
 | _,_,_,.nil,.nil=>rfl
 | _,_,_,.cons r t,.cons r' t'=>by rw[r.inj r',Vals.inj t t']
section
variable{X:Cx}{pins:List (Addr×Obj)}{σ:St}{H:Hp}{s:Shared}{a:Addr}{xs ys:List V}
theorem SqL.of{K:W.Frag}(h:H a=some (.lst xs)):SqL K H a xs:=.inl (.inl h)
theorem SqT.of{K:W.Frag}(h:H a=some (.tup xs)):SqT K H a xs:=.inl (.inl h)
theorem Inv.list(I:Inv X pins σ H s)(h:SqL X.K H a xs):∃its:List Value,Vals xs its/\PlainL s.heap a its.toArray/\xs.length<=sizeLine:=by
 rcases h with h | ⟨o,its,n,hk,hc,hd,hs,hz,r⟩
 ·obtain⟨z,its,n,r,e⟩:=h.ok I.hok;exact⟨its,r,⟨_,n,e,rfl,rfl,rfl⟩,z⟩
 ·refine⟨its.toList,r,⟨o,n,I.kIn a o hk,hc,hd,by simpa using hs⟩,?_⟩;have e:=r.length;simp only[Array.length_toList]at e;omega
theorem Inv.tuple(I:Inv X pins σ H s)(h:SqT X.K H a xs):∃its:List Value,Vals xs its/\IsTup s.heap a its.toArray/\xs.length<=sizeLine:=by
 rcases h with h | ⟨o,its,n,hk,hc,hs,hz,r⟩
 ·obtain⟨⟨z,_⟩,its,r,p⟩:=h.ok I.hok;exact⟨its,r,p,z⟩
 ·refine⟨its.toList,r,⟨o,I.kIn a o hk,hc,n,by simpa using hs⟩,?_⟩;have e:=r.length;simp only[Array.length_toList]at e;omega
theorem Inv.list_inj(I:Inv X pins σ H s)(h:SqL X.K H a xs)(h':SqL X.K H a ys):xs=ys:=by
 obtain⟨its,r,⟨o,n,e,_,_,d⟩,_⟩:=I.list h;obtain⟨its',r',⟨o',n',e',_,_,d'⟩,_⟩:=I.list h';rw[e]at e';cases e';rw[d]at d';injection d' with d1 _
 have:its=its':=by simpa using congrArg Array.toList d1
 subst this;exact r.inj r'
theorem Inv.tuple_inj(I:Inv X pins σ H s)(h:SqT X.K H a xs)(h':SqT X.K H a ys):xs=ys:=by
 obtain⟨its,r,⟨o,e,_,n,d⟩,_⟩:=I.tuple h;obtain⟨its',r',⟨o',e',_,n',d'⟩,_⟩:=I.tuple h';rw[e]at e';cases e';rw[d]at d';injection d' with d1 _
 have:its=its':=by simpa using congrArg Array.toList d1
 subst this;exact r.inj r'
end
noncomputable abbrev Cx.wish(X:Cx)(E:Value->Shared->Prop):Cx:={ X with xe:=E }
noncomputable abbrev Cx.nox(X:Cx):Cx:=X.wish fun _ _=>False
theorem Cx.Ok.wish{X:Cx}(ok:X.Ok)(E:Value->Shared->Prop):(X.wish E).Ok:=
 ⟨ok.mod,ok.kind,ok.glob,ok.blt,ok.above,ok.inj,ok.has,ok.cab,ok.hd,ok.frames,ok.stk,ok.exf,ok.bs,ok.bsz,ok.noex,ok.exfs,ok.funs,ok.frf⟩
theorem Cx.Ok.unwish{X:Cx}{E:Value->Shared->Prop}(ok:(X.wish E).Ok):X.Ok:=
 ⟨ok.mod,ok.kind,ok.glob,ok.blt,ok.above,ok.inj,ok.has,ok.cab,ok.hd,ok.frames,ok.stk,ok.exf,ok.bs,ok.bsz,ok.noex,ok.exfs,ok.funs,ok.frf⟩
section
variable{X:Cx}{pins:List (Addr×Obj)}{σ:St}{H:Hp}{s:Shared}{E:Value->Shared->Prop}
theorem Inv.wish(I:Inv X pins σ H s)(E:Value->Shared->Prop):Inv (X.wish E) pins σ H s:=⟨I.ok.wish E,I.os,I.bare,I.base,I.loc,I.cell,I.free,I.freeC,I.pin,I.hok,I.len⟩
theorem Inv.unwish(I:Inv (X.wish E) pins σ H s):Inv X pins σ H s:=⟨I.ok.unwish,I.os,I.bare,I.base,I.loc,I.cell,I.free,I.freeC,I.pin,I.hok,I.len⟩
theorem SP.unwish{D:Ends}{f:Flow}{s':Shared}(h:SP (X.wish E) pins D f s'):SP X pins D f s':=by
 cases f with
 | next=>obtain⟨σ',H',I,q⟩:=h;exact⟨σ',H',I.unwish,q⟩
 | brk=>obtain⟨σ',H',I,q⟩:=h;exact⟨σ',H',I.unwish,q⟩
 | cont=>obtain⟨σ',H',I,q⟩:=h;exact⟨σ',H',I.unwish,q⟩
 | ret u=>obtain⟨v,σ',H',I,r,q⟩:=h;exact⟨v,σ',H',I.unwish,r,q⟩
theorem PSs.nox{st:List Stmt}{t:TS}(h:PSs X.nox st t):PSs X st t:=fun pins s σ H D I hw=>
 wpAny_mono (h pins s σ H D (I.wish _) hw) (fun _ _ q=>q.unwish) fun _ _ z=>False.elim z
end
section
variable{X:Cx}{st:Stmt}{rest:List Stmt}{t u:TS}{e:Expr}{te:TE}{pos:Pos}
noncomputable def z8l:TS:=fun D σ H=>D.nx σ H
noncomputable def tSeq(t u:TS):TS:=fun D σ H=>t { D with nx:=u D } σ H
theorem pss_nil:PSs X [] z8l:=fun _ _ σ H _ I h=>wpAny_execs_nil ⟨σ,H,I,h⟩
theorem yf(h1:PS X st t)(h2:PSs X rest u):PSs X (st::rest) (tSeq t u):=by
 intro pins s σ H D I h;refine wpAny_execs_cons (thn (h1 pins s σ H { D with nx:=u D } I h) fun f s1 q=>?_);cases f with
 | next=>
  obtain⟨σ',H',I',q⟩:=q;exact h2 pins s1 σ' H' D I' q
 | ret v=>exact q
 | brk=>exact q
 | cont=>exact q
theorem xz(h1:PS X st t):PSs X [st] t:=by
 intro pins s σ H D I h;refine wpAny_execs_cons (thn (h1 pins s σ H D I h) fun f s1 q=>?_);cases f with
 | next=>exact wpAny_execs_nil q
 | ret v=>exact q
 | brk=>exact q
 | cont=>exact q
theorem Inv.quiet{pins:List (Addr×Obj)}{σ:St}{H:Hp}{s:Shared}(I:Inv X pins σ H s):interactive X.env=false:=by simp[interactive,I.ok.kind]
noncomputable def z98(te:TE):TS:=fun D σ H=>te σ H fun _ H1=>D.nx σ H1
theorem xW(he:PE X e te)(hs:swapsWith e none pos.line X.env=pure false:=by rfl):PS X (.Expr e pos) (z98 te):=by
 intro pins s σ H D I h;exact wpAny_Expr_any (thn (he pins s σ H _ I h) fun v s1 ⟨x,H1,I1,r1,q1⟩=>⟨σ,H1,I1,q1⟩) I.quiet hs
noncomputable def tRet(te:TE):TS:=fun D σ H=>te σ H D.rt
theorem z0d(he:PE X e te):PS X (.Return (some e) pos) (tRet te):=by
 intro pins s σ H D I h;exact wpAny_Return_some (thn (he pins s σ H _ I h) fun v s1 ⟨x,H1,I1,r1,q1⟩=>⟨x,σ,H1,I1,r1,q1⟩)
noncomputable def tIfS(c:TT)(t u:TS):TS:=fun D σ H=>c σ H fun b H1=>if b=true then t D σ H1 else u D σ H1
theorem z6v{c:Expr}{a b:List Stmt}{tc:TT}(hc:PT X c tc)(ha:PSs X a t)(hb:PSs X b u):PS X (.If c a b pos) (tIfS tc t u):=by
 intro pins s σ H D I h;refine wpAny_If (thn (hc pins s σ H _ I h) fun d s1 ⟨H1,I1,q1⟩=>?_);cases d with
 | true=>exact ha pins s1 σ H1 D I1 q1
 | false=>exact hb pins s1 σ H1 D I1 q1
noncomputable def z7S:TS:=fun _ _ _=>False
theorem ps_never:PS X st z7S:=fun _ _ _ _ _ _ h=>h.elim
end
noncomputable abbrev TG:=V->St->Hp->(St->Hp->Prop)->Prop
noncomputable abbrev TGs:=List V->St->Hp->(St->Hp->Prop)->Prop
def PG(X:Cx)(target:Expr)(t:TG):Prop:=
 ∀(pins:List (Addr×Obj)) (s:Shared) (σ:St) (H:Hp) (v:V) (u:Value) (Q:St->Hp->Prop),Inv X pins σ H s->RelV v u->t v σ H Q->
  wpAny (model X.prog X.w) X.A (assign target X.env u) (fun _ s'=>∃σ' H',Inv X pins σ' H' s'/\Q σ' H') X.xe s
section
variable{X:Cx}{pos:Pos}
noncomputable def uR(i:Nat):TG:=fun v σ H Q=>Q (σ.set i (some v)) H
theorem yh{i:Nat}{x:Str}(hN:X.N.Nodup)(hi:X.N[i]?=some x)(hx:Loc X.env.scope x)(hf:X.fn x=true\/X.env.scope.names.lookup x=some .local:=by first | exact .inl rfl | exact .inr rfl | assumption):PG X (.Name x pos) (uR i):=by
 intro pins s σ H v u Q I r h;exact wpAny_assign_Name (wM I hN hi hx r (fun s' I'=>⟨_,H,I',h⟩) hf)
noncomputable def gNil:TGs:=fun vs σ H Q=>vs=[]/\Q σ H
noncomputable def z7M(t:TG)(u:TGs):TGs:=fun vs σ H Q=>∃v r,vs=v::r/\t v σ H fun σ' H'=>u r σ' H' Q
noncomputable def gTup(K:W.Frag)(n:Nat)(t:TGs):TG:=fun v σ H Q=>∃a xs,v=.ref a/\SqT K H a xs/\xs.length=n/\t xs σ H Q
noncomputable def tAsg(te:TE)(g:TG):TS:=fun D σ H=>te σ H fun x H1=>g x σ H1 D.nx
theorem z2L{i:Nat}{x:Str}{e:Expr}{te:TE}{pos':Pos}(hN:X.N.Nodup)(hi:X.N[i]?=some x)(hx:Loc X.env.scope x)(he:PE X e te)(hs:swapsWith e (some (.Name x pos')) pos.line X.env=pure false:=by rfl)(hf:X.fn x=true\/X.env.scope.names.lookup x=some .local:=by first | exact .inl rfl | exact .inr rfl | assumption):
  PS X (.Assign [.Name x pos'] e pos) (tAsg te (uR i)):=by
 intro pins s σ H D I h;refine wpAny_Assign_Name (thn (he pins s σ H _ I h) fun v s1 ⟨y,H1,I1,r1,q1⟩=>?_) hs;exact wM I1 hN hi hx r1 (fun s2 I2=>⟨_,H1,I2,q1⟩) hf
noncomputable def tPar(i j:Nat)(ta:TA):TS:=fun D σ H=>ta σ H fun vs H1=>∃v w,vs=[v,w]/\D.nx ((σ.set i (some v)).set j (some w)) H1
theorem z7C{i j:Nat}{x y:Str}{a b:Expr}{ta:TA}{px py pt:Pos}{kt k2 pt2}(hc:X.calm=true)(hN:X.N.Nodup)(hi:X.N[i]?=some x)(hj:X.N[j]?=some y)(hij:i≠j)
  (hx:X.env.scope.names.lookup x=some .local) (hy:X.env.scope.names.lookup y=some .local) (ha:PA X [a,b] ta)
  (hw:swappedStores [.Tuple [.Name x px,.Name y py] kt pt] (.Tuple [a,b] k2 pt2) X.env=pure (some [x,y]))
  (hs:swapsWithSole [.Tuple [.Name x px,.Name y py] kt pt] (.Tuple [a,b] k2 pt2) pos.line X.env=pure false:=by rfl) :
  PS X (.Assign [.Tuple [.Name x px,.Name y py] kt pt] (.Tuple [a,b] k2 pt2) pos) (tPar i j ta):=by
 intro pins s σ H D I h;rw[exec_Assign_arm];refine wpAny_bind (wpAny_standAt ?_);rw[hs];refine wpAny_bind (wpAny_pure ?_);rw[if_neg (by decide)];refine wpAny_bind (Tuple_ (thn (ha _ pins s σ H _ I h) fun us s1 ⟨vs,H1,I1,r1,q1⟩=>?_));obtain⟨v,w,e1,q1⟩:=q1;subst e1;obtain⟨u1,u2,rfl,rv,rw'⟩:∃u1 u2,us=[u1,u2]/\RelV v u1/\RelV w u2:=by
  cases r1 with
  | cons p q=>
   cases q with
   | cons p' q'=>
    cases q';exact⟨_,_,rfl,p,p'⟩
 refine wpAny_newObj_type ?_ (by show 2<=sizeLine;decide);have I2:Inv X pins σ H1 { s1 with heap:=s1.heap.push { cls:=.type "tuple",data:=.seq [u1,u2].toArray } }:=I1.kept (t':=s1.toks) fun b o e=>Heap.get?_push_of_some _ e;rw[hw];refine wpAny_bind (wpAny_pure ?_);show wpAny (model X.prog X.w) X.A (do rule "assign.swapped-stores";let items<-unpackItems (.ref s1.heap.objs.size) 2 none;assignInOrder [fun v=>bindName X.env y v,fun v=>bindName X.env x v] items.reverse;pure Flow.next) _ _ _;refine wpAny_bind (wpAny_rule (wpAny_bind (unpackItems_tuple (items:=#[u1,u2]) (I.ok.hd hc) (IsTup.new s1.heap _) fun h' hx'=>?_)));have I3:=I2.kept (h':=h') (t':=s1.toks) fun b o e=>hx' b o (Nat.ne_of_lt (Heap.lt_size e)) e;show wpAny _ _ (assignInOrder [fun v=>bindName X.env y v,fun v=>bindName X.env x v] [u2,u1] >>= fun _=>pure Flow.next) _ _ _;refine wpAny_bind (assignInOrder_cons (wpAny_bindName (wM I3 hN hj (.inl hy) rw' (fun s2 I4=>?_) (.inr hy))));refine assignInOrder_cons (wpAny_bindName (wM I4 hN hi (.inl hx) rv (fun s3 I5=>assignInOrder_nil (wpAny_pure ?_)) (.inr hx)));rw[List.set_comm _ _ (Ne.symm hij)]at I5;exact⟨_,H1,I5,q1⟩
end
section
variable{X:Cx}{pos:Pos}
noncomputable def z69(c:TT)(tb:TS):TS:=fun D σ H=>∃W:Nat->St->Hp->Prop,(∃m,W m σ H)/\∀m σ H,W m σ H->
 c σ H fun b H1=>if b=true then ∃N:St->Hp->Prop,(∀σ' H',N σ' H'->∃m',m'<m/\W m' σ' H')/\tb { D with nx:=N,ct:=N,bk:=D.nx } σ H1 else D.nx σ H1
theorem z5q{c:Expr}{body:List Stmt}{tc:TT}{tb:TS}(hp:PassesOwn (model X.prog X.w) X.A X.env X.xe)(hc:PT X c tc)(hb:PSs X body tb):PS X (.While c body [] pos) (z69 tc tb):=by
 intro pins s σ H D I h;obtain⟨W,⟨m0,w0⟩,turn⟩:=h;refine wpAny_While (codeAny_whileLoop (fun n s'=>∃σ' H',Inv X pins σ' H' s'/\W n σ' H') ?_ m0 ⟨σ,H,I,w0⟩);rintro n s1 ⟨σ1,H1,I1,w1⟩;refine wpAny_passesOwn hp (thn (hc pins s1 σ1 H1 _ I1 (turn n σ1 H1 w1)) fun b s2 ⟨H2,I2,q2⟩=>?_);cases b with
 | true=>
  obtain⟨N,hN,q2⟩:=q2;rw[if_pos rfl];refine wpAny_passesOwn hp (thn (hb pins s2 σ1 H2 _ I2 q2) fun f s3 q3=>?_);cases f with
  | next=>
   obtain⟨σ3,H3,I3,n3⟩:=q3;obtain⟨m',hm,w3⟩:=hN σ3 H3 n3;exact⟨m',hm,σ3,H3,I3,w3⟩
  | cont=>
   obtain⟨σ3,H3,I3,n3⟩:=q3;obtain⟨m',hm,w3⟩:=hN σ3 H3 n3;exact⟨m',hm,σ3,H3,I3,w3⟩
  | brk=>exact q3
  | ret v=>exact q3
 | false=>
  rw[if_neg Bool.false_ne_true];exact wpAny_execs_nil ⟨σ1,H2,I2,q2⟩
end
structure It where
 go:Nat->Hp->Prop
 yld:Nat->Hp->V->Hp->Prop
 stop:Nat->Hp->Prop
def FpOk(X:Cx)(pins:List (Addr×Obj))(H:Hp)(b:Addr):Prop:=
 H b=none/\b≠X.env.locals/\b∉X.fs/\(b∈X.ex\/X.s₀.heap.objs.size<=b)/\(∀x c,X.env.cells.lookup x=some c->c≠b)/\∀p∈X.pn++pins,p.1≠b
theorem Inv.fpOk{X:Cx}{pins:List (Addr×Obj)}{σ:St}{H H':Hp}{s:Shared}{b:Addr}(I:Inv X pins σ H s)(hb:s.heap.objs.size<=b)(hn:H' b=none):FpOk X pins H' b:=by
 refine⟨hn,Nat.ne_of_gt (Nat.lt_of_lt_of_le I.lt hb),I.nofs hb,.inr (Nat.le_trans I.sz hb),fun x c e z=>?_,fun p hp z=>?_⟩
 ·obtain⟨v,q⟩:=I.cell x c e;exact absurd (Nat.lt_of_lt_of_le q.lt (by rw[z];exact hb)) (Nat.lt_irrefl _)
 ·exact absurd (Nat.lt_of_lt_of_le (Heap.lt_size (I.pin p hp).1) (by rw[z];exact hb)) (Nat.lt_irrefl _)
structure Turn(P:Program)(w:World)(K:W.Frag)(tg:Expr)(J:It)(fp:List Addr)(it:Addr)(tn:Nat->Heap->Prop):Prop where
 mem:it∈fp
 obj:∀i h,tn i h->∀b∈fp,∃o,h.get? b=some o/\∀v,o.data≠.cell v
 keep:∀i h h',tn i h->(∀b∈fp,∀o,h.get? b=some o->h'.get? b=some o)->tn i h'
 item:∀(X:Cx),X.prog=P->X.w=w->X.K=K->X.calm=true->∀(i:Nat) (pins:List (Addr×Obj)) (s:Shared) (σ:St) (H:Hp) (E:Value->Shared->Prop),Inv X pins σ H s->(∀b∈fp,FpOk X pins H b)->tn i s.heap->J.go i H->
  wpAny (model P w) X.A (pyNext (.ref it)) (fun r s1=>∃u,r=some u/\
   wpAny (model P w) X.A (letOwnedTupleGo tg (.ref it) u) (fun _ s2=>∃x H',Inv X pins σ H' s2/\RelV x u/\J.yld i H x H'/\tn (i+1) s2.heap/\∀b∈fp,H' b=none) E s1) E s
 done:∀(X:Cx),X.prog=P->X.w=w->X.K=K->X.calm=true->∀(i:Nat) (pins:List (Addr×Obj)) (s:Shared) (σ:St) (H:Hp) (E:Value->Shared->Prop),Inv X pins σ H s->(∀b∈fp,FpOk X pins H b)->tn i s.heap->J.stop i H->
  wpAny (model P w) X.A (pyNext (.ref it)) (fun r s1=>r=none/\Inv X pins σ H s1) E s
 self:∀(A:Around) (i:Nat) (s:Shared) (Q:Value->Shared->Prop) (E:Value->Shared->Prop),tn i s.heap->Q (.ref it) s->wpAny (model P w) A (pyIter (.ref it)) Q E s
noncomputable abbrev TI:=St->Hp->(It->Hp->Prop)->Prop
def PIE(X:Cx)(pins:List (Addr×Obj))(σ:St)(tg:Expr)(R:It->Hp->Prop)(itv:Value)(s2:Shared):Prop:=
 ∃(it:Addr) (fp:List Addr) (tn:Nat->Heap->Prop) (J:It) (H':Hp),itv=.ref it/\Inv X pins σ H' s2/\Turn X.prog X.w X.K tg J fp it tn/\tn 0 s2.heap/\(∀b∈fp,FpOk X pins H' b)/\R J H'
def PI(X:Cx)(tg iter:Expr)(wi:TI):Prop:=
 ∀(pins:List (Addr×Obj)) (s:Shared) (σ:St) (H:Hp) (R:It->Hp->Prop),Inv X pins σ H s->wi σ H R->
  wpAny (model X.prog X.w) X.A (eval iter X.env) (fun v s1=>wpAny (model X.prog X.w) X.A (pyIter v) (PIE X pins σ tg R) X.xe s1) X.xe s
theorem z5I{M:Model}{A:Around}{E:Value->Shared->Prop}{s:Shared}{tg:Expr}{it:Addr}{u:Value}{o:Obj}{n:String}{vs:Array Value}{Q:Unit->Shared->Prop}(ho:s.heap.get? it=some o)(hc:o.cls=.type n)(hd:o.data=.fields vs)
    (hn:["enumerate","zip","dict_itemiterator","dict_reverseitemiterator","odict_iterator","itertools.zip_longest","itertools.pairwise"].contains n=false) (hQ:Q () s):wpAny M A (letOwnedTupleGo tg (.ref it) u) Q E s:=by
  unfold letOwnedTupleGo;cases tg<;>first
    | exact wpAny_pure hQ
    | (cases u <;> first
        | exact wpAny_pure hQ
        | (refine wpAny_bind (wpAny_load ho ?_)
           rw[hc,hd];show wpAny M A (if (["enumerate","zip","dict_itemiterator","dict_reverseitemiterator","odict_iterator","itertools.zip_longest","itertools.pairwise"].contains n && vs[0]? == some (rawInt _))=true then _ else _) Q E s;rw[if_neg (by intro h;rw[hn,Bool.false_and]at h;cases h)];exact wpAny_pure hQ))
noncomputable def Itl(K:W.Frag)(a:Addr):It:=
 ⟨fun i H=>∃xs x,SqL K H a xs/\xs[i]?=some x,fun i H x H'=>H'=H/\∀xs,SqL K H a xs->xs[i]?=some x,fun i H=>∃xs,SqL K H a xs/\xs.length<=i⟩
noncomputable def Itt(K:W.Frag)(a:Addr):It:=
 ⟨fun i H=>∃xs x,SqT K H a xs/\xs[i]?=some x,fun i H x H'=>H'=H/\∀xs,SqT K H a xs->xs[i]?=some x,fun i H=>∃xs,SqT K H a xs/\xs.length<=i⟩
noncomputable def Itr(lo:Int)(n:Nat):It:=⟨fun i _=>i<n,fun i H x H'=>H'=H/\x=.int (lo+i),fun i _=>n<=i⟩
theorem z3f{P:Program}{w:World}{K:W.Frag}{tg:Expr}(a it:Addr):Turn P w K tg (Itl K a) [it] it (fun i h=>h.IsListIter it a i) where
 mem:=by simp
 obj:=fun i h st b hb=>by
  have e:b=it:=by simpa using hb
  subst e;obtain⟨o,e,c,d⟩:=st;exact⟨o,e,fun v z=>by rw[d]at z;cases z⟩
 keep:=fun i h h' st k=>st.at fun o e=>k it (by simp) o e
 item:=by
  intro X hP hw hK hc i pins s σ H E I hf st hg;subst hP hw hK;obtain⟨xs,x,hq,hx⟩:=hg;obtain⟨its,rv,p,hz⟩:=I.list hq;obtain⟨u,hu,ru⟩:=rv.get hx;obtain⟨f0,f1,f2,f3,f4,f5⟩:=hf it (by simp);refine wpAny_pyNext_list_item st p.isList (x:=u) (by simpa using hu) fun h' st' sb=>?_;have I1:Inv X pins σ H { s with heap:=h' }:=I.turned (t':=s.toks) (fun b o hb e=>(sb.2 b hb).trans e) f0 f1 f3 f4 f5;obtain⟨o,e,c,d⟩:=id st';exact⟨u,rfl,z5I (s:={ s with heap:=h' }) e c d (by decide) ⟨x,H,I1,ru,⟨rfl,fun ys hy=>by rw[I.list_inj hy hq];exact hx⟩,st',fun b hb=>(hf b hb).1⟩⟩
 done:=by
  intro X hP hw hK hc i pins s σ H E I hf st hg;subst hP hw hK;obtain⟨xs,hq,hx⟩:=hg;obtain⟨its,rv,p,hz⟩:=I.list hq;obtain⟨f0,f1,f2,f3,f4,f5⟩:=hf it (by simp);have hl:=rv.length;exact wpAny_pyNext_list_end (I.ok.hd hc) st p.isList (by simp;omega) fun h' eb=>⟨rfl,I.turned (t':=s.toks) (fun b o hb e=>eb b o hb e) f0 f1 f3 f4 f5⟩
 self:=fun _ _ _ _ _ st h=>wpAny_pyIter_listiter st h
theorem z01{P:Program}{w:World}{K:W.Frag}{tg:Expr}(a it:Addr):Turn P w K tg (Itt K a) [it] it (fun i h=>h.IsTupleIter it a i) where
 mem:=by simp
 obj:=fun i h st b hb=>by
  have e:b=it:=by simpa using hb
  subst e;obtain⟨o,e,c,d⟩:=st;exact⟨o,e,fun v z=>by rw[d]at z;cases z⟩
 keep:=fun i h h' st k=>st.at fun o e=>k it (by simp) o e
 item:=by
  intro X hP hw hK hc i pins s σ H E I hf st hg;subst hP hw hK;obtain⟨xs,x,hq,hx⟩:=hg;obtain⟨its,rv,p,hz⟩:=I.tuple hq;obtain⟨u,hu,ru⟩:=rv.get hx;obtain⟨f0,f1,f2,f3,f4,f5⟩:=hf it (by simp);refine wpAny_pyNext_tuple_item st (show s.heap.IsTuple a its.toArray from p) (x:=u) (by simpa using hu) fun h' st' sb=>?_;have I1:Inv X pins σ H { s with heap:=h' }:=I.turned (t':=s.toks) (fun b o hb e=>(sb.2 b hb).trans e) f0 f1 f3 f4 f5;obtain⟨o,e,c,d⟩:=id st';exact⟨u,rfl,z5I (s:={ s with heap:=h' }) e c d (by decide) ⟨x,H,I1,ru,⟨rfl,fun ys hy=>by rw[I.tuple_inj hy hq];exact hx⟩,st',fun b hb=>(hf b hb).1⟩⟩
 done:=by
  intro X hP hw hK hc i pins s σ H E I hf st hg;subst hP hw hK;obtain⟨xs,hq,hx⟩:=hg;obtain⟨its,rv,p,hz⟩:=I.tuple hq;obtain⟨f0,f1,f2,f3,f4,f5⟩:=hf it (by simp);have hl:=rv.length;exact wpAny_pyNext_tuple_end (I.ok.hd hc) st (show s.heap.IsTuple a its.toArray from p) (by simp;omega) fun h' eb=>⟨rfl,I.turned (t':=s.toks) (fun b o hb e=>eb b o hb e) f0 f1 f3 f4 f5⟩
 self:=fun _ _ _ _ _ st h=>wpAny_pyIter_tupleiter st h
theorem z38{P:Program}{w:World}{K:W.Frag}{tg:Expr}(it:Addr)(lo:Int)(n:Nat):Turn P w K tg (Itr lo n) [it] it (fun i h=>IsRangeIter h it (lo+(i:Nat)*1) ((n:Int) - (i:Nat)) 1) where
 mem:=by simp
 obj:=fun i h st b hb=>by
  have e:b=it:=by simpa using hb
  subst e;exact⟨_,st,fun v z=>by
   have z':Data.fields _=Data.cell v:=z;cases z'⟩
 keep:=fun i h h' st k=>k it (by simp) _ st
 item:=by
  intro X hP hw hK hc i pins s σ H E I hf st hg;subst hP hw hK;obtain⟨f0,f1,f2,f3,f4,f5⟩:=hf it (by simp);have W:=Walks.range (prog:=X.prog) (w:=X.w) (I.ok.hd hc) it lo 1 n;refine W.item i s _ _ hg st fun v h' tk hv st' kk=>?_;obtain⟨t,rfl⟩:=hv;have I1:Inv X pins σ H { s with heap:=h',toks:=tk }:=I.turned (fun b o hb e=>kk b o (by simpa using hb) e) f0 f1 f3 f4 f5;refine⟨_,rfl,z5I (s:={ s with heap:=h',toks:=tk }) (n:="range_iterator") st' rfl rfl (by decide) ⟨.int (lo+i),H,I1,⟨t,?_⟩,⟨rfl,rfl⟩,st',fun b hb=>(hf b hb).1⟩⟩;rw[Int.mul_one]
 done:=by
  intro X hP hw hK hc i pins s σ H E I hf st hg;subst hP hw hK;obtain⟨f0,f1,f2,f3,f4,f5⟩:=hf it (by simp);exact wpAny_pyNext_range_end (I.ok.hd hc) st (by have:n<=i:=hg;omega) fun h' eb=>⟨rfl,I.turned (t':=s.toks) (fun b o hb e=>eb b o hb e) f0 f1 f3 f4 f5⟩
 self:=fun _ _ _ _ _ st h=>wpAny_pyIter_rangeiter st h
section
variable{X:Cx}{tg:Expr}
noncomputable def iTup(K:W.Frag)(tl:TE):TI:=fun σ H R=>tl σ H fun x H1=>∃a,x=.ref a/\(∃xs,SqT K H1 a xs)/\R (Itt K a) H1
theorem z7U{l:Expr}{tl:TE}(hl:PE X l tl):PI X tg l (iTup X.K tl):=by
 intro pins s σ H R I h;refine thn (hl pins s σ H _ I h) fun v s1 ⟨x,H1,I1,r1,q1⟩=>?_;obtain⟨a,e,⟨xs,hq⟩,q⟩:=q1;subst e;cases r1;obtain⟨its,rv,p,hz⟩:=I1.tuple hq;refine wpAny_pyIter_tuple (show s1.heap.IsTuple a its.toArray from p) ?_;refine⟨s1.heap.objs.size,[s1.heap.objs.size],_,_,H1,rfl,I1.kept (t':=s1.toks) fun b o e=>Heap.get?_push_of_some _ e,z01 a _,⟨_,Heap.get?_push_size _ rfl,rfl,rfl⟩,fun b hb=>?_,q⟩;have e:b=s1.heap.objs.size:=by simpa using hb
 subst e;exact I1.fpOk (Nat.le_refl _) (I1.hok.fresh (Nat.le_refl _))
theorem z29{pins:List (Addr×Obj)}{σ:St}{H:Hp}{s:Shared}{R:It->Hp->Prop}{E:Value->Shared->Prop}{lo hi:Int}{t u v:Tok}{tk:Nat}(I:Inv X pins σ H s)(h1 : -(2 ^ 62)<=lo)(h2:lo<2 ^ 62)(h3 : -(2 ^ 62)<=hi)(h4:hi<2 ^ 62)
  (q:R (Itr lo (hi - lo).toNat) H):wpAny (model X.prog X.w) X.A (pyIter (.ref s.heap.objs.size)) (PIE X pins σ tg R) E { s with heap:=s.heap.push { cls:=.type "range",data:=.fields #[.int lo t,.int hi u,.int 1 v] },toks:=tk }:=by
 refine wpAny_pyIter_range (IsRange.new ..) (small_one h1 h2 h3 h4) ?_;have I1:Inv X pins σ H { s with heap:=s.heap.push { cls:=.type "range",data:=.fields #[.int lo t,.int hi u,.int 1 v] },toks:=tk }:=I.kept fun b o e=>Heap.get?_push_of_some _ e;refine⟨(s.heap.push { cls:=.type "range",data:=.fields #[.int lo t,.int hi u,.int 1 v] }).objs.size,[(s.heap.push { cls:=.type "range",data:=.fields #[.int lo t,.int hi u,.int 1 v] }).objs.size],_,_,H,rfl,
  I1.kept (t':=tk) fun b o e=>Heap.get?_push_of_some _ e,z38 _ lo (hi - lo).toNat,?_,fun b hb=>?_,q⟩
 ·have e1:lo+((0:Nat):Int)*1=lo:=by simp
  have e2:(((hi - lo).toNat:Nat):Int) - ((0:Nat):Int)=Builtin.Range.rangeSize lo hi 1:=by rw[rangeSize_one];split<;>omega
  show IsRangeIter _ _ (lo+((0:Nat):Int)*1) ((((hi - lo).toNat:Nat):Int) - ((0:Nat):Int)) 1;rw[e1,e2];exact Heap.get?_push_size _ rfl
 ·have e:b=(s.heap.push { cls:=.type "range",data:=.fields #[.int lo t,.int hi u,.int 1 v] }).objs.size:=by simpa using hb
  subst e;exact I1.fpOk (Nat.le_refl _) (I1.hok.fresh (Nat.le_refl _))
noncomputable def z8i(ta:TA):TI:=fun σ H R=>ta σ H fun vs H1=>∃j:Int,vs=[.int j] /\ -(2 ^ 62)<=j/\j<2 ^ 62/\R (Itr 0 j.toNat) H1
noncomputable def z8X(ta:TA):TI:=fun σ H R=>ta σ H fun vs H1=>∃i j:Int,vs=[.int i,.int j]/\(-(2 ^ 62)<=i/\i<2 ^ 62 /\ -(2 ^ 62)<=j/\j<2 ^ 62)/\R (Itr i (j - i).toNat) H1
theorem z1O{a:Expr}{ta:TA}{p pos:Pos}(hg:Gl X "range")(hm:X.mg "range"=none)(ha:PA X [a] ta)(hs:starEach [a] X.env=[(false,eval a X.env)]:=by rfl):PI X tg (.Call (.Name "range" p) [a] [] pos) (z8i ta):=by
 intro pins s σ H R I h;refine Call_ (wZ I hg hm boot_range (PyProof.Rows.callWith_type1 (thn (ha pos pins s σ H _ I h) fun us s1 ⟨vs,H1,I1,r1,q1⟩=>?_) hs rfl));obtain⟨j,e,q1,q2,q⟩:=q1;subst e;cases r1 with
 | cons r rr=>
  cases rr;obtain⟨t,rfl⟩:=r;exact call_range_1 (z29 I1 (by omega) (by omega) q1 q2 (by simpa using q))
theorem z4M{a b:Expr}{ta:TA}{p pos:Pos}(hg:Gl X "range")(hm:X.mg "range"=none)(ha:PA X [a,b] ta)(hs:starEach [a,b] X.env=[(false,eval a X.env),(false,eval b X.env)]:=by rfl)(hs2:starEach [b] X.env=[(false,eval b X.env)]:=by rfl):
  PI X tg (.Call (.Name "range" p) [a,b] [] pos) (z8X ta):=by
 intro pins s σ H R I h;refine Call_ (wZ I hg hm boot_range (PyProof.Rows.callWith_type1 (thn (ha pos pins s σ H _ I h) fun us s1 ⟨vs,H1,I1,r1,q1⟩=>?_) (by rw[hs,hs2]) (by rw[hs2];rfl)));obtain⟨i,j,e,⟨q1,q2,q3,q4⟩,q⟩:=q1;subst e;cases r1 with
 | cons r rr=>
  cases rr with
  | cons r' rr=>
   cases rr;obtain⟨t,rfl⟩:=r;obtain⟨t',rfl⟩:=r';exact call_range_2 (z29 I1 q1 q2 q3 q4 q)
noncomputable def tFor(wi:TI)(g:TG)(tb:TS):TS:=fun D σ H=>wi σ H fun J H1=>∃W:Nat->Nat->St->Hp->Prop,(∃m,W 0 m σ H1)/\∀i m σ H,W i m σ H->
 (J.stop i H/\D.nx σ H)\/(J.go i H/\∃N:St->Hp->Prop,(∀σ' H',N σ' H'->∃m',m'<m/\W (i+1) m' σ' H')/\∀x H',J.yld i H x H'->g x σ H' fun σ2 H2=>tb { D with nx:=N,ct:=N,bk:=D.nx } σ2 H2)
noncomputable def uY(fp:List Addr)(h:Heap):List (Addr×Obj):=fp.filterMap fun b=>(h.get? b).map fun o=>(b,o)
theorem xE{fp:List Addr}{h:Heap}{b:Addr}{o:Obj}(hb:b∈fp)(e:h.get? b=some o):(b,o)∈uY fp h:=List.mem_filterMap.mpr ⟨b,hb,by rw[e];rfl⟩
theorem z3r{fp:List Addr}{h:Heap}{p:Addr×Obj}(hp:p∈uY fp h):p.1∈fp/\h.get? p.1=some p.2:=by
 obtain⟨b,hb,e⟩:=List.mem_filterMap.mp hp;cases q:h.get? b with
 | none=>rw[q]at e;cases e
 | some o=>
  rw[q]at e;have e':(b,o)=p:=Option.some.inj e;subst e';exact⟨hb,q⟩
theorem Inv.pinned{pins:List (Addr×Obj)}{σ:St}{H:Hp}{s:Shared}{fp:List Addr}(I:Inv X pins σ H s)(hf:∀b∈fp,FpOk X pins H b)(ho:∀b∈fp,∃o,s.heap.get? b=some o/\∀v,o.data≠.cell v):Inv X (pins++uY fp s.heap) σ H s:=
 I.pins_of fun p hp=>(List.mem_append.mp hp).elim (fun z=>I.pin p (List.mem_append_right _ z)) fun z=>by
  obtain⟨hb,e⟩:=z3r z;obtain⟨f0,f1,f2,_⟩:=hf p.1 hb;obtain⟨o,e',d⟩:=ho p.1 hb;rw[e]at e';cases e';exact⟨e,f0,f1,f2,d⟩
theorem Inv.unpinned{pins pl:List (Addr×Obj)}{σ:St}{H:Hp}{s:Shared}(I:Inv X (pins++pl) σ H s):Inv X pins σ H s:=I.pins_of fun p hp=>I.pin p (List.mem_append_right _ (List.mem_append_left _ hp))
theorem z4Q{iter:Expr}{body:List Stmt}{wi:TI}{g:TG}{tb:TS}{pos:Pos}(hp:PassesOwn (model X.prog X.w) X.A X.env X.xe)(hc:X.calm=true)(hi:PI X tg iter wi)(hg:PG X tg g)(hb:PSs X body tb)
  (hs:∀x,foldedSetIterable iter X.env x=pure x:=by intro _;rfl):PS X (.For tg iter body [] pos) (tFor wi g tb):=by
 intro pins s σ H D I h;refine wpAny_For (thn (hi pins s σ H _ I h) fun v s1 h1=>thn h1 fun itv s2 h2=>?_) hs;obtain⟨it,fp,tn,J,H2,e,I2,T,st2,f2,W,⟨m0,w0⟩,turn⟩:=h2;subst e;have stat:∀{H':Hp},(∀b∈fp,H' b=none)->∀b∈fp,FpOk X pins H' b:=fun hn b hb=>⟨hn b hb,(f2 b hb).2⟩;refine codeAny_forLoop_any (fun n s'=>∃i σ' H',Inv X pins σ' H' s'/\tn i s'.heap/\(∀b∈fp,H' b=none)/\W i n σ' H') ?_ m0 ⟨0,σ,H2,I2,st2,fun b hb=>(f2 b hb).1,w0⟩;rintro n s3 ⟨i,σ3,H3,I3,st3,fr3,w3⟩;rcases turn i n σ3 H3 w3 with ⟨stop,qn⟩ | ⟨go,N,hN,step⟩
 ·refine wpAny_passesOwn hp (thn (T.done X rfl rfl rfl hc i pins s3 σ3 H3 X.xe I3 (stat fr3) st3 stop) fun r s4 ⟨hr,I4⟩=>?_);subst hr;exact wpAny_execs_nil ⟨σ3,H3,I4,qn⟩
 ·refine wpAny_passesOwn hp (thn (T.item X rfl rfl rfl hc i pins s3 σ3 H3 X.xe I3 (stat fr3) st3 go) fun r s4 ⟨u,hr,h4⟩=>?_);subst hr;refine wpAny_passesOwn hp (thn h4 fun _ s5 ⟨x,H5,I5,r5,y5,st5,fr5⟩=>?_);have I5':=I5.pinned (stat fr5) (T.obj _ _ st5);refine wpAny_passesOwn hp (thn (hg _ s5 σ3 H5 x u _ I5' r5 (step x H5 y5)) fun _ s6 ⟨σ6,H6,I6,q6⟩=>?_);refine wpAny_passesOwn hp (thn (hb _ s6 σ6 H6 _ I6 q6) fun f s7 q7=>?_);have again:∀{σ7:St} {H7:Hp},Inv X (pins++uY fp s5.heap) σ7 H7 s7->N σ7 H7->∃m,m<n/\∃i σ' H',Inv X pins σ' H' s7/\tn i s7.heap/\(∀b∈fp,H' b=none)/\W i m σ' H':=fun{σ7 H7} I7 n7=>by
   obtain⟨m',hm,w7⟩:=hN σ7 H7 n7;refine⟨m',hm,i+1,σ7,H7,I7.unpinned,T.keep _ _ _ st5 fun b hb o e=>(I7.pin (b,o) (List.mem_append_right _ (List.mem_append_right _ (xE hb e)))).1,fun b hb=>?_,w7⟩;obtain⟨o,e,d⟩:=T.obj _ _ st5 b hb;exact(I7.pin (b,o) (List.mem_append_right _ (List.mem_append_right _ (xE hb e)))).2.1
  cases f with
  | next=>obtain⟨σ7,H7,I7,n7⟩:=q7;exact again I7 n7
  | cont=>obtain⟨σ7,H7,I7,n7⟩:=q7;exact again I7 n7
  | brk=>obtain⟨σ7,H7,I7,q7⟩:=q7;exact⟨σ7,H7,I7.unpinned,q7⟩
  | ret v=>obtain⟨x7,σ7,H7,I7,r7,q7⟩:=q7;exact⟨x7,σ7,H7,I7.unpinned,r7,q7⟩
end
theorem z79{K:W.Frag}{a:Addr}{xs:List V}{g:TG}{tb:TS}{D:Ends}{σ:St}{H:Hp}(Pv:Nat->St->Hp->Prop)(h0:Pv 0 σ H)(hl:∀i σ H,i<=xs.length->Pv i σ H->SqT K H a xs)
  (hs:∀i x σ H,xs[i]?=some x->Pv i σ H->g x σ H fun σ2 H2=>tb { D with nx:=Pv (i+1),ct:=Pv (i+1),bk:=D.nx } σ2 H2) (hd:∀σ H,Pv xs.length σ H->D.nx σ H) :
  ∃W:Nat->Nat->St->Hp->Prop,(∃m,W 0 m σ H)/\∀i m σ H,W i m σ H->
   ((Itt K a).stop i H/\D.nx σ H)\/((Itt K a).go i H/\∃N:St->Hp->Prop,(∀σ' H',N σ' H'->∃m',m'<m/\W (i+1) m' σ' H')/\∀x H',(Itt K a).yld i H x H'->g x σ H' fun σ2 H2=>tb { D with nx:=N,ct:=N,bk:=D.nx } σ2 H2):=by
 refine⟨fun i m σ H=>m=xs.length - i/\i<=xs.length/\Pv i σ H,⟨xs.length,by simp,Nat.zero_le _,h0⟩,?_⟩;rintro i m σ H ⟨rfl,hi,p⟩;have q:=hl i σ H hi p;by_cases hlt:i<xs.length
 ·refine .inr ⟨⟨xs,xs[i],q,by simp[hlt]⟩,Pv (i+1),fun σ' H' p'=>⟨xs.length - (i+1),by omega,rfl,hlt,p'⟩,fun x H' y=>?_⟩;obtain⟨e,y⟩:=y;subst e;exact hs i x σ _ (y xs q) p
 ·have e:i=xs.length:=by omega
  subst e;exact .inl ⟨⟨xs,q,Nat.le_refl _⟩,hd σ H p⟩
noncomputable abbrev R2:=V->V->Hp->VK->Prop
def OpR(X:Cx)(f:Value->Value->Sem Value)(r:R2):Prop:=
 ∀(pins:List (Addr×Obj)) (s:Shared) (σ:St) (H:Hp) (x y:V) (v u:Value) (Q:VK),Inv X pins σ H s->RelV x v->RelV y u->r x y H Q->
  wpAny (model X.prog X.w) X.A (f v u) (EP X pins σ Q) X.xe s
def CallR(X:Cx)(f:Value)(r:List V->Hp->VK->Prop):Prop:=
 ∀(pins:List (Addr×Obj)) (s:Shared) (σ:St) (H:Hp) (xs:List V) (us:List Value) (Q:VK),Inv X pins σ H s->Vals xs us->r xs H Q->
  wpAny (model X.prog X.w) X.A (call f us) (EP X pins σ Q) X.xe s
def TruR(X:Cx)(r:V->Hp->(Bool->Hp->Prop)->Prop):Prop:=
 ∀(pins:List (Addr×Obj)) (s:Shared) (σ:St) (H:Hp) (x:V) (v:Value) (Q:Bool->Hp->Prop),Inv X pins σ H s->RelV x v->r x H Q->
  wpAny (model X.prog X.w) X.A (truthy v) (TP X pins σ Q) X.xe s
noncomputable def tOp(r:R2)(ta tb:TE):TE:=fun σ H Q=>ta σ H fun x H1=>tb σ H1 fun y H2=>r x y H2 Q
noncomputable def rI(C:Int->Int->Prop)(g:Int->Int->V):R2:=fun x y H Q=>∃i j,x=.int i/\y=.int j/\C i j/\Q (g i j) H
noncomputable def rI0(g:Int->Int->V):R2:=fun x y H Q=>∃i j,x=.int i/\y=.int j/\Q (g i j) H
section
variable{X:Cx}{a b c:Expr}{ta tb tc:TE}{pos:Pos}
theorem binT(ha:PE X a ta)(hb:PE X b tb){pins:List (Addr×Obj)}{s:Shared}{σ:St}{H:Hp}{R:V->V->Hp->Prop}(I:Inv X pins σ H s)
  (h:ta σ H fun x H1=>tb σ H1 fun y H2=>R x y H2) {Q:Value->Shared->Prop} {f:Value->Value->Sem Value}
  (hf:∀v u s2 x y H2,Inv X pins σ H2 s2->RelV x v->RelV y u->R x y H2->wpAny (model X.prog X.w) X.A (f v u) Q X.xe s2) :
  wpAny (model X.prog X.w) X.A (eval a X.env) (fun v s₁=>wpAny (model X.prog X.w) X.A (eval b X.env) (fun u s₂=>wpAny (model X.prog X.w) X.A (f v u) Q X.xe s₂) X.xe s₁) X.xe s:=by
 refine thn (ha pins s σ H _ I h) fun v s1 ⟨x,H1,I1,r1,q1⟩=>?_;refine thn (hb pins s1 σ H1 _ I1 q1) fun u s2 ⟨y,H2,I2,r2,q2⟩=>?_;exact hf v u s2 x y H2 I2 r1 r2 q2
theorem z4q{op:Operator}{r:R2}(ho:OpR X (binaryOp op) r)(ha:PE X a ta)(hb:PE X b tb):PE X (.BinOp a op b pos) (tOp r ta tb):=by
 intro pins s σ H Q I h;exact wpAny_BinOp (binT ha hb I h fun v u s2 x y H2 I2 rx ry q=>ho pins s2 σ H2 x y v u Q I2 rx ry q)
theorem opI{f:Value->Value->Sem Value}{C:Int->Int->Prop}{g:Int->Int->Int}
  (rule:∀(i j:Int) (t u:Tok) (s:Shared) (Q:Value->Shared->Prop) (E:Value->Shared->Prop),C i j->Q (.int (g i j) s.toks) { s with toks:=s.toks+1 }->wpAny (model X.prog X.w) X.A (f (.int i t) (.int j u)) Q E s) :
  OpR X f (rI C fun i j=>.int (g i j)):=by
 intro pins s σ H x y v u Q I rx ry h;obtain⟨i,j,rfl,rfl,hc,q⟩:=h;obtain⟨t,rfl⟩:=rx;obtain⟨t',rfl⟩:=ry;exact rule i j t t' s _ _ hc ⟨.int (g i j),H,I.tok _,⟨_,rfl⟩,q⟩
theorem opI0{f:Value->Value->Sem Value}{g:Int->Int->Int}
  (rule:∀(i j:Int) (t u:Tok) (s:Shared) (Q:Value->Shared->Prop) (E:Value->Shared->Prop),Q (.int (g i j) s.toks) { s with toks:=s.toks+1 }->wpAny (model X.prog X.w) X.A (f (.int i t) (.int j u)) Q E s) :
  OpR X f (rI0 fun i j=>.int (g i j)):=by
 intro pins s σ H x y v u Q I rx ry h;obtain⟨i,j,rfl,rfl,q⟩:=h;obtain⟨t,rfl⟩:=rx;obtain⟨t',rfl⟩:=ry;exact rule i j t t' s _ _ ⟨.int (g i j),H,I.tok _,⟨_,rfl⟩,q⟩
theorem opB0{f:Value->Value->Sem Value}{g:Int->Int->Bool}
  (rule:∀(i j:Int) (t u:Tok) (s:Shared) (Q:Value->Shared->Prop) (E:Value->Shared->Prop),Q (.bool (g i j)) s->wpAny (model X.prog X.w) X.A (f (.int i t) (.int j u)) Q E s) :
  OpR X f (rI0 fun i j=>.bl (g i j)):=by
 intro pins s σ H x y v u Q I rx ry h;obtain⟨i,j,rfl,rfl,q⟩:=h;obtain⟨t,rfl⟩:=rx;obtain⟨t',rfl⟩:=ry;exact rule i j t t' s _ _ ⟨.bl (g i j),H,I,rfl,q⟩
def CPow(i j:Int):Prop:=0<=j/\j<=1000000/\i.natAbs<2 ^ 64
def CMul(i j:Int):Prop:=(-(2 ^ 64)<i/\i<2 ^ 64)\/(-(2 ^ 64)<j/\j<2 ^ 64)
theorem CMul.ok{i j:Int}(h:CMul i j):IntMulOk i j:=by
 rcases h with ⟨h1,h2⟩ | ⟨h1,h2⟩
 ·exact .of_left (intBits_le_64 h1 h2)
 ·exact .of_right (intBits_le_64 h1 h2)
theorem op_add:OpR X (binaryOp .Add) (rI0 fun i j=>.int (i+j)):=opI0 fun _ _ _ _ _ _ _ q=>add_int q
theorem op_sub:OpR X (binaryOp .Sub) (rI0 fun i j=>.int (i - j)):=opI0 fun _ _ _ _ _ _ _ q=>sub_int q
theorem op_mul:OpR X (binaryOp .Mult) (rI CMul fun i j=>.int (i*j)):=opI fun _ _ _ _ _ _ _ hc q=>mul_int q hc.ok
theorem op_mod:OpR X (binaryOp .Mod) (rI (fun _ j=>0<j) fun i j=>.int (i % j)):=opI fun i j _ _ _ _ _ hc q=>by
 have h1:(0:Int)<j:=hc;exact mod_int' (by omega) (by rw[Int.fmod_eq_emod_of_nonneg i (by omega)];exact q)
theorem op_pow:OpR X (binaryOp .Pow) (rI CPow fun i j=>.int (i ^ j.toNat)):=opI fun _ _ _ _ _ _ _ hc q=>pow_int_small hc.1 hc.2.1 hc.2.2 q
end
section
variable{X:Cx}{a b c:Expr}{ta tb tc:TE}{pos:Pos}
theorem z6H{pins:List (Addr×Obj)}{σ:St}{H:Hp}{s:Shared}{Q:VK}{k k':Bool}(I:Inv X pins σ H s)(q:Q (.bl k) H)(e:k=k'):EP X pins σ Q (.bool k') s:=by
 subst e;exact⟨.bl k,H,I,rfl,q⟩
theorem op_lt:OpR X (compareOp .Lt) (rI0 fun i j=>.bl (decide (i<j))):=opB0 fun _ _ _ _ _ _ _ q=>lt_int q
theorem z8I:OpR X (compareOp .LtE) (rI0 fun i j=>.bl (decide (i<=j))):=opB0 fun _ _ _ _ _ _ _ q=>le_int q
theorem z8b:OpR X (compareOp .GtE) (rI0 fun i j=>.bl (decide (j<=i))):=opB0 fun _ _ _ _ _ _ _ q=>ge_int q
theorem op_isN:OpR X (compareOp .Is) (fun x y H Q=>y=.non/\Q (.bl (decide (x=.non))) H):=by
 intro pins s σ H x y v u Q I rx ry h;obtain⟨rfl,q⟩:=h;cases ry;refine is_none_gen (z6H I q ?_);cases x<;>first
  | (cases rx;rfl)
  | (obtain⟨t,rfl⟩:=rx;rfl)
theorem op_notN:OpR X (compareOp .IsNot) (fun x y H Q=>y=.non/\Q (.bl (!decide (x=.non))) H):=by
 intro pins s σ H x y v u Q I rx ry h;obtain⟨rfl,q⟩:=h;cases ry;refine isnot_none_gen (z6H I q ?_);cases x<;>first
  | (cases rx;rfl)
  | (obtain⟨t,rfl⟩:=rx;rfl)
theorem OpR.or{f:Value->Value->Sem Value}{r r':R2}(h:OpR X f r)(h':OpR X f r'):OpR X f (fun x y H Q=>r x y H Q\/r' x y H Q):=by
 intro pins s σ H x y v u Q I rx ry q;rcases q with q | q
 ·exact h pins s σ H x y v u Q I rx ry q
 ·exact h' pins s σ H x y v u Q I rx ry q
theorem zR(b:Expr){op:CmpOp}(h:op≠.In:=by decide)(h2:op≠.NotIn:=by decide):behindInMarks op b=false:=by
 have e1:(op == CmpOp.In)=false:=by cases op<;>first | rfl | exact absurd rfl h
 have e2:(op == CmpOp.NotIn)=false:=by cases op<;>first | rfl | exact absurd rfl h2
 cases b<;>simp[behindInMarks,e1,e2]
theorem z6s{op:CmpOp}{r:R2}(ho:OpR X (compareOp op) r)(ha:PE X a ta)(hb:PE X b tb)(hm:behindInMarks op b=false):PE X (.Compare a [op] [b] pos) (tOp r ta tb):=by
 intro pins s σ H Q I h;exact wpAny_Compare1 (binT ha hb I h fun v u s2 x y H2 I2 rx ry q=>ho pins s2 σ H2 x y v u Q I2 rx ry q) hm
noncomputable def z8t(t:TE):TT:=fun σ H Q=>t σ H fun x H'=>∃k,x=.bl k/\Q k H'
theorem z1Y{op:CmpOp}{r:R2}(ho:OpR X (compareOp op) r)(ha:PE X a ta)(hb:PE X b tb)(hm:behindInMarks op b=false):PT X (.Compare a [op] [b] pos) (z8t (tOp r ta tb)):=by
 intro pins s σ H Q I h;refine wpAny_isTrue_Compare1 (thn (ha pins s σ H _ I h) fun v s1 ⟨x,H1,I1,r1,q1⟩=>thn (hb pins s1 σ H1 _ I1 q1) fun u s2 ⟨y,H2,I2,r2,q2⟩=>
  thn (ho pins s2 σ H2 x y v u _ I2 r1 r2 q2) fun c s3 ⟨z,H3,I3,r3,k,e,q3⟩=>?_) hm
 subst e;cases r3;exact wpAny_truthy_bool ⟨H3,I3,q3⟩
noncomputable def z67(r r':R2)(ta tb tc:TE):TE:=fun σ H Q=>ta σ H fun x H1=>tb σ H1 fun y H2=>r x y H2 fun z H3=>∃k,z=.bl k/\
 (if k=true then tc σ H3 fun w' H4=>r' y w' H4 Q else Q (.bl false) H3)
theorem z5R{op op':CmpOp}{r r':R2}(ho:OpR X (compareOp op) r)(ho':OpR X (compareOp op') r')(ha:PE X a ta)(hb:PE X b tb)(hc:PE X c tc)
  (hm:lastMarks [op,op'] [b,c]=false:=by with_unfolding_all rfl):PE X (.Compare a [op,op'] [b,c] pos) (z67 r r' ta tb tc):=by
 intro pins s σ H Q I h;refine Compare_chain (thn (ha pins s σ H _ I h) fun v s1 ⟨x,H1,I1,r1,q1⟩=>chain_link (thn (hb pins s1 σ H1 _ I1 q1) fun u s2 ⟨y,H2,I2,r2,q2⟩=>
  thn (ho pins s2 σ H2 x y v u _ I2 r1 r2 q2) fun d s3 ⟨z,H3,I3,r3,k,e,q3⟩=>?_)) hm
 subst e;cases r3;refine wpAny_truthy_bool ?_;cases k with
 | false=>exact ite_ff ⟨.bl false,H3,I3,rfl,q3⟩
 | true=>exact ite_tt (chain_last (thn (hc pins s3 σ H3 _ I3 q3) fun w' s4 ⟨z',H4,I4,r4,q4⟩=>ho' pins s4 σ H4 y z' u w' Q I4 r2 r4 q4))
def TruV(K:W.Frag)(x:V)(H:Hp)(k:Bool):Prop:=
 match x with
 | .non=>k=false
 | .bl b=>k=b
 | .int i=>k=(i != 0)
 | .str y=>y.length<=sizeLine/\k=((y.length:Int) != 0)
 | .byt y=>y.size<=sizeLine/\k=((y.size:Int) != 0)
 | .ref p=>(∃xs,SqL K H p xs/\k=!xs.isEmpty)\/(∃xs,SqT K H p xs/\k=!xs.isEmpty)\/∃kvs,H p=some (.dK kvs)/\k=!kvs.isEmpty
 | _=>False
theorem z2p{κ:Type}{kvs:List (κ×V)}{vs:List (κ×Value)}(r:KV kvs vs):(!vs.isEmpty)=!kvs.isEmpty:=by
 cases r<;>rfl
theorem ut{xs:List V}{its:List Value}(r:Vals xs its):(!its.toArray.isEmpty)=!xs.isEmpty:=by
 cases r<;>simp
theorem z15:(sizeLine:Nat)<2 ^ 63:=by rw[sizeLine_eq];decide
theorem z7w:TruR X (fun x H Q=>∃k,TruV X.K x H k/\Q k H):=by
 intro pins s σ H x v Q I rx h;obtain⟨k,e,q⟩:=h;have hl:=z15;have hs:sizeLine=16777216:=sizeLine_eq;cases x with
 | non=>
  cases rx;have e':k=false:=e;subst e';exact truthy_none ⟨H,I,q⟩
 | bl b=>
  cases rx;have e':k=b:=e;subst e';exact wpAny_truthy_bool ⟨H,I,q⟩
 | int i=>
  obtain⟨t,rfl⟩:=rx;have e':k=(i != 0):=e;subst e';exact PySem.P.truthy_int ⟨H,I,q⟩
 | str y=>
  obtain⟨t,rfl⟩:=rx;obtain⟨hy,e'⟩:y.length<=sizeLine/\k=((y.length:Int) != 0):=e;subst e';exact PySem.P.truthy_str (by omega) ⟨H,I.tok _,q⟩
 | byt y=>
  obtain⟨t,rfl⟩:=rx;obtain⟨hy,e'⟩:y.size<=sizeLine/\k=((y.size:Int) != 0):=e;subst e';exact W.truthy_bytes (by omega) ⟨H,I.tok _,q⟩
 | ref p=>
  cases rx;have e':(∃xs,SqL X.K H p xs/\k=!xs.isEmpty)\/(∃xs,SqT X.K H p xs/\k=!xs.isEmpty)\/∃kvs,H p=some (.dK kvs)/\k=!kvs.isEmpty:=e;rcases e' with ⟨xs,hx,e'⟩ | ⟨xs,hx,e'⟩ | ⟨kvs,hx,e'⟩
  ·subst e';obtain⟨its,r,pl,hz⟩:=I.list hx;have hlen:=r.length;exact wpAny_truthy_list pl.isList (by simp only[List.size_toArray];omega) ⟨H,I.tok _,by rw[ut r];exact q⟩
  ·subst e';obtain⟨its,r,pl,hz⟩:=I.tuple hx;have hlen:=r.length;exact truthy_tuple pl (by simp only[List.size_toArray];omega) ⟨H,I.tok _,by rw[ut r];exact q⟩
  ·subst e';obtain⟨hz,hS,vs,r,m⟩:kvs.length<=sizeLine/\(p == sysModules)=false/\∃vs,KV kvs vs/\s.heap.DictOf (zd X.prog X.w) p vs:=I.hok p _ hx;have hlen:kvs.length=vs.length:=Paired.length r;exact wpAny_truthy_dict hS m (by omega) ⟨H,I.tok _,by rw[z2p r];exact q⟩
 | _=>exact(show False from e).elim
theorem z52(ha:PE X a ta)(he:∀whole,isTrue a X.env whole=(do let v<-whole;standAt a.pos;holding [v] (truthy v))):
  PT X a (fun σ H Q=>ta σ H fun x H'=>∃k,TruV X.K x H' k/\Q k H'):=by
 intro pins s σ H Q I h;exact isTrue_plain (thn (ha pins s σ H _ I h) fun v s1 ⟨x,H1,I1,r1,q1⟩=>z7w pins s1 σ H1 x v Q I1 r1 q1) (he _)
theorem z33:OpR X (binaryOp .Add) (fun x y H Q=>∃i j,x=.str i/\y=.str j/\i.length+j.length<=sizeLine/\Q (.str (i++j)) H):=by
 intro pins s σ H x y v u Q I rx ry h;obtain⟨i,j,rfl,rfl,hz,q⟩:=h;obtain⟨t,rfl⟩:=rx;obtain⟨t',rfl⟩:=ry;exact add_str (fun t' tk=>⟨.str (i++j),H,I.tok _,⟨_,rfl⟩,q⟩) hz
theorem yq{x:V}{us:List Value}(r:Vals [x] us):∃u,us=[u]/\RelV x u:=by
 cases r with
 | cons r1 r2=>cases r2;exact⟨_,rfl,r1⟩
theorem z8x{x y:V}{us:List Value}(r:Vals [x,y] us):∃u w',us=[u,w']/\RelV x u/\RelV y w':=by
 cases r with
 | cons r1 r2=>
  cases r2 with
  | cons r3 r4=>cases r4;exact⟨_,_,rfl,r1,r3⟩
theorem call_int1:CallR X (.type "int") (fun xs H Q=>(∃i,xs=[.int i]/\Q (.int i) H)\/∃k,xs=[.bl k]/\Q (.int (if k then 1 else 0)) H):=by
 intro pins s σ H xs us Q I r h;rcases h with ⟨i,rfl,q⟩ | ⟨k,rfl,q⟩
 ·obtain⟨u,rfl,t,rfl⟩:=yq r;exact call_int_int ⟨.int i,H,I,⟨_,rfl⟩,q⟩
 ·obtain⟨u,rfl,r1⟩:=yq r;cases r1;exact call_int_bool ⟨.int (if k then 1 else 0),H,I.tok _,⟨_,rfl⟩,q⟩
end
structure ObjM(h:Heap)(x dx C:Addr)(mA:Str->Option Value):Prop where
 obj:h.get? x=some (W.instObj C dx)
 ns:h.Ns1 dx mA
 ne:dx≠x
theorem z4U{h:Heap}{dx:Addr}{mA:Str->Option Value}(n:h.Ns1 dx mA):∃od,h.get? dx=some od/\∀name,W.lookIn name od=some (mA name):=by
 obtain⟨o,es,ep,ho,hd,hk,_,hm⟩:=n;refine⟨o,ho,fun name=>?_⟩;have e:=hm name;unfold nsFind findBy at e;rw[<-Array.find?_toList]at e;unfold W.lookIn;rw[hd];dsimp only;split
 ·rename_i y q
  rw[q]at e;exact congrArg some e
 ·rename_i q
  rw[q]at e;have a:es.toList.any (·.refKey)=false:=by
   rw[List.any_eq_false];intro y hy;obtain⟨z,t,hkey⟩:=hk y (Array.mem_toList_iff.mp hy);simp[DictEntry.refKey,hkey]
  have a':¬es.toList.any (·.refKey)=true:=by rw[a];exact Bool.false_ne_true
  rw[if_neg a'];exact congrArg some e
theorem ObjM.look{h:Heap}{x dx C:Addr}{mA:Str->Option Value}(I:ObjM h x dx C mA):∃od,W.InstAt h x (W.instObj C dx) C (some od)/\∀name,W.lookIn name od=some (mA name):=
 let⟨od,ho,hl⟩:=z4U I.ns
 ⟨od,⟨I.obj,rfl,rfl,ho⟩,hl⟩
section
variable{prog:Program}{w:World}{A:Around}{E:Value->Shared->Prop}{s:Shared}{K:W.Frag}{x dx C f:Addr}{mA:Str->Option Value}{name:Str}{v:Value}
end
theorem RelO.some_of{v:V}{o:Option Value}(r:RelO (some v) o):∃u,o=some u/\RelV v u:=by
 cases o with
 | none=>exact(show False from r).elim
 | some u=>exact⟨u,rfl,r⟩
section
variable{P:Program}{w:World}{H H':Hp}{h h':Heap}{a C dx:Addr}{fs fs':List (Str×V)}
theorem z77(hok:HOk P w H h)(e:H a=some (.ins C dx fs)):∃mA,ObjM h a dx C mA/\(∀f,RelO (fs.lookup f) (mA f))/\PySem.Within mA (fs.map (·.1))/\fs.length<=1000/\H dx=some (.own a):=by
 obtain⟨d,z,ne,ob,mA,n,r,q⟩:=(show ObjOk P w H h a (.ins C dx fs) from hok a _ e);exact⟨mA,⟨ob,n,ne⟩,r,q,z,d⟩
end
structure Cls(K:W.Frag)(C:Addr):Prop where
 pg:W.plainGet K C Str.empty=true
 hd:W.hasDictIn K C=true
 po:W.plainOver K C=true
 sa:W.findIn K (.ref C) "__setattr__"=some (some (.builtin "object.__setattr__"))
theorem Cls.get{K:W.Frag}{C:Addr}(c:Cls K C)(f:Str):W.plainGet K C f=true:=c.pg
section
variable{X:Cx}{pins:List (Addr×Obj)}{σ:St}{H:Hp}{s:Shared}{a C dx:Addr}{fs:List (Str×V)}{f:Str}{v:V}{A:Around}{E:Value->Shared->Prop}
end
section
variable{X:Cx}{o e value:Expr}{f:Str}{pos pos' tpos:Pos}{ta tv:TE}
end
section
variable{X:Cx}{pins:List (Addr×Obj)}{σ:St}{H:Hp}{s:Shared}{A:Around}{E:Value->Shared->Prop}{Q:Value->Shared->Prop}{c:Value}{b:Bool}
inductive TyOf(K:W.Frag)(H:Hp):V->Value->Prop where
 | non:TyOf K H .non (.type "NoneType")
 | bl (x:Bool):TyOf K H (.bl x) (.type "bool")
 | int (i:Int):TyOf K H (.int i) (.type "int")
 | str (x:Str):TyOf K H (.str x) (.type "str")
 | flt (x:UInt64):TyOf K H (.flt x) (.type "float")
 | lst {a:Addr} {xs:List V} (e:H a=some (.lst xs)):TyOf K H (.ref a) (.type "list")
 | frz {a:Addr} {o:Obj} {xs:List V} (e:H a=some (.frz o (.lst xs))):TyOf K H (.ref a) (.type "list")
 | tup {a:Addr} {xs:List V} (e:H a=some (.tup xs)):TyOf K H (.ref a) (.type "tuple")
 | dK {a:Addr} {kvs:List (Key×V)} (e:H a=some (.dK kvs)):TyOf K H (.ref a) (.type "dict")
 | dT {a:Addr} {kvs:List (List Key×V)} (e:H a=some (.dT kvs)):TyOf K H (.ref a) (.type "dict")
 | ins {a C dx:Addr} {fs:List (Str×V)} (e:H a=some (.ins C dx fs)) (cl:Cls K C) (ha:W.findIn K (.ref C) "__class__"=some (some (.builtin "object.__class__")))
   (hn:W.specialIn K (.builtin "object.__class__") "__get__"=some (some (.builtin "getset_descriptor.__get__"))) (htk:W.takesIn K (.builtin "object.__class__")=some true)
   (hm:W.mroIn K C (.type "object")=some true):TyOf K H (.ref a) (.ref C)
theorem z4n{x:V}{u t:Value}(I:Inv X pins σ H s)(rx:RelV x u)(ty:TyOf X.K H x t)(e:W.kitOne X.K t c=some b)(h:∀tk,Q (.bool b) { s with toks:=tk }):
  wpAny (model X.prog X.w) A (call (.builtin "isinstance") [u,c]) Q E s:=by
 cases ty with
 | non=>cases(show u=Value.none from rx);exact W.kia_one W.kitx_none I.kIn True.intro e (fun z=>nomatch z) h
 | bl y=>cases(show u=Value.bool y from rx);exact W.kia_one W.kitx_bool I.kIn True.intro e (fun z=>nomatch z) h
 | int i=>obtain⟨t,q⟩:=(show ∃t,u=Value.int i t from rx);cases q;exact W.kia_one W.kitx_int I.kIn True.intro e (fun z=>nomatch z) h
 | str y=>obtain⟨t,q⟩:=(show ∃t,u=Value.str y t from rx);cases q;exact W.kia_one W.kitx_str I.kIn True.intro e (fun z=>nomatch z) h
 | flt y=>obtain⟨t,q⟩:=(show ∃t,u=Value.float y t from rx);cases q;exact W.kia_one W.kitx_float I.kIn True.intro e (fun z=>nomatch z) h
 | @lst a xs ea=>
  cases(show u=Value.ref a from rx);obtain⟨_,_,n,_,h1⟩:=(show ObjOk X.prog X.w H s.heap a (.lst xs) from I.hok a _ ea);exact W.kia_one W.kitx_list I.kIn ⟨_,h1,rfl⟩ e (fun z=>nomatch z) h
 | @frz a ob xs ea=>
  cases(show u=Value.ref a from rx);obtain⟨_,_,_,n,_,h1⟩:=(show ObjOk X.prog X.w H s.heap a (.frz ob (.lst xs)) from I.hok a _ ea);exact W.kia_one W.kitx_list I.kIn ⟨_,h1,rfl⟩ e (fun z=>nomatch z) h
 | @tup a xs ea=>
  cases(show u=Value.ref a from rx);obtain⟨_,_,_,p⟩:=(show ObjOk X.prog X.w H s.heap a (.tup xs) from I.hok a _ ea);obtain⟨o,h1,h2,_⟩:=p;exact W.kia_one W.kitx_tuple I.kIn ⟨o,h1,h2⟩ e (fun z=>nomatch z) h
 | @dK a kvs ea=>
  cases(show u=Value.ref a from rx);obtain⟨_,_,vs,_,p⟩:=(show ObjOk X.prog X.w H s.heap a (.dK kvs) from I.hok a _ ea);obtain⟨o,es,ep,h1,h2,_⟩:=p;exact W.kia_one W.kitx_dict I.kIn ⟨o,h1,h2.1⟩ e (fun z=>nomatch z) h
 | @dT a kvs ea=>
  cases(show u=Value.ref a from rx);obtain⟨_,_,xs,_,o,es,ep,h1,h2,_⟩:=(show ObjOk X.prog X.w H s.heap a (.dT kvs) from I.hok a _ ea);exact W.kia_one W.kitx_dict I.kIn ⟨o,h1,h2.1⟩ e (fun z=>nomatch z) h
 | @ins a C dx fs ea cl ha hn htk hm=>
  cases(show u=Value.ref a from rx);obtain⟨mA,O,_⟩:=z77 I.hok ea;obtain⟨od,J,_⟩:=O.look;exact W.kia_one (W.kitx_own (cl.get _) cl.hd ha hn htk hm) I.kIn J e (fun z=>nomatch z) h
end
structure Room(k:Nat)(A:Around):Prop where
 hd:A.handled=none
 dp:A.depth+3*k+5<recursionLimit
 un:A.units+16*k+200<cLine
theorem Room.mono{j k:Nat}{A:Around}(r:Room k A)(h:j<=k):Room j A:=⟨r.hd,by have:=r.dp;omega,by have:=r.un;omega⟩
theorem Room.deeper{k:Nat}{A:Around}(r:Room (k+1) A)(env:Env):Room k (A.deeper env):=
 ⟨r.hd,by have:=r.dp;show A.depth+1+3*k+5<_;omega,by have:=r.un;show A.units+3+16*k+200<_;omega⟩
theorem Room.depth{k:Nat}{A:Around}(r:Room k A):A.depth<recursionLimit:=by have:=r.dp;omega
theorem Room.units{k:Nat}{A:Around}(r:Room k A):A.units+64<cLine:=by have:=r.un;omega
noncomputable def tNil:TA:=fun _ H Q=>Q [] H
noncomputable def xb(ta:TE)(tr:TA):TA:=fun σ H Q=>ta σ H fun x H1=>tr σ H1 fun xs H2=>Q (x::xs) H2
section
variable{X:Cx}{e:Expr}{es:List Expr}{te:TE}{t:TA}{pos:Pos}
theorem pa_nil:PA X [] tNil:=fun _ _ _ _ H Q I h=>Calls.spliced_nil ⟨[],H,I,.nil,h⟩
theorem zK(ha:PE X e te)(hr:PA X es t)(hs:starEach (e::es) X.env=(false,eval e X.env)::starEach es X.env:=by rfl):PA X (e::es) (xb te t):=by
 intro pos pins s σ H Q I h;rw[hs];show wpAny _ _ (spliced ((false,eval e X.env)::backTo pos (starEach es X.env))) _ _ s;refine Calls.spliced_cons (thn (ha pins s σ H _ I h) fun u s1 ⟨x,H1,I1,r1,q1⟩=>?_);exact thn (hr pos pins s1 σ H1 _ I1 q1) fun us s2 ⟨xs,H2,I2,r2,q2⟩=>⟨x::xs,H2,I2,.cons r1 r2,q2⟩
noncomputable def tTup(t:TA):TE:=fun σ H Q=>t σ H fun xs H1=>xs.length<=sizeLine/\∀p,H1 p=none->Q (.ref p) (upd H1 p (.tup xs))
noncomputable def tLst(t:TA):TE:=fun σ H Q=>t σ H fun xs H1=>xs.length<=sizeLine/\∀p,H1 p=none->Q (.ref p) (upd H1 p (.lst xs))
theorem z6B{x1}(h:PA X es t):PE X (.Tuple es x1 pos) (tTup t):=by
 intro pins s σ H Q I hq;refine wpAny_Tuple_spliced (thn (h pos pins s σ H _ I hq) fun us s1 ⟨xs,H1,I1,r,z,q⟩=>⟨by rw[<-r.length];exact z,?_⟩);have hf:H1 s1.heap.objs.size=none:=I1.hok.fresh (Nat.le_refl _);refine⟨.ref s1.heap.objs.size,upd H1 s1.heap.objs.size (.tup xs),I1.laid (t':=s1.toks) (fun b u e=>Heap.get?_push_of_some _ e) (Nat.le_refl _) ?_,rfl,q _ hf⟩;exact⟨⟨z,_,Heap.get?_push_size _ rfl,rfl⟩,us,r,⟨_,Heap.get?_push_size _ rfl,rfl,_,rfl⟩⟩
theorem z2T(h:PA X es t):PE X (.List es pos) (tLst t):=by
 intro pins s σ H Q I hq;refine wpAny_List_spliced (thn (h pos pins s σ H _ I hq) fun us s1 ⟨xs,H1,I1,r,z,q⟩=>⟨by rw[<-r.length];exact z,?_⟩);have hf:H1 s1.heap.objs.size=none:=I1.hok.fresh (Nat.le_refl _);refine⟨.ref s1.heap.objs.size,upd H1 s1.heap.objs.size (.lst xs),I1.laid (t':=s1.toks) (fun b u e=>Heap.get?_push_of_some _ e) (Nat.le_refl _) ?_,rfl,q _ hf⟩;exact⟨z,us,0,r,Heap.get?_push_size _ rfl⟩
end
noncomputable abbrev Sp:=List V->Hp->VK->XK->Prop
noncomputable abbrev CXT:=List Env->Hp->Shared->XK->Value->Shared->Prop
structure Env0(P:Program)(w:World)(K:W.Frag)(mg:Str->Option Value)(base:Heap)(A:Around)(outer:List Env)(s:Shared)(H:Hp):Prop where
 frames:A.frames=some outer
 mod:Mod K mg base
 bs:∀b o,base.get? b=some o->s.heap.get? b=some o/\H b=none
 bsz:base.objs.size<=s.heap.objs.size
 funs:s.heap.FunFrames base outer
 frf:∀b∈frs outer,H b=none
 hok:HOk P w H s.heap
 bare:AllBare s.gens
def CE(outer:List Env)(P:Program)(w:World)(H:Hp)(s:Shared)(Q:VK)(u:Value)(s':Shared):Prop:=
 ∃v H',s'.os=s.os/\AllBare s'.gens/\Un (frs outer) [] H H' s.heap s'.heap/\HOk P w H' s'.heap/\RelV v u/\Q v H'
def CR(CX:CXT)(outer:List Env)(P:Program)(w:World)(H:Hp)(s:Shared)(Q:VK)(E:XK)(r:Result)(s':Shared):Prop:=
 match r with
 | .ok (.ret u)=>CE outer P w H s Q u s'
 | .ok _=>False
 | .error e=>CX outer H s E e s'
structure FnOk(P:Program)(w:World)(K:W.Frag)(mg:Str->Option Value)(base:Heap)(CX:CXT)(k:Nat)(f:Addr)(fd:FuncData)(ps:List Str)(sp:Sp):Prop where
 len:∀vs H Q E,sp vs H Q E->vs.length=ps.length
 run:∀(A:Around) (outer:List Env) (s:Shared) (H:Hp) (args:Args) (us:List Value) (vs:List V) (Q:VK) (E:XK),Room k A->Env0 P w K mg base A outer s H->BindsTo s fd args (ps.zip us)->Vals vs us->sp vs H Q E->
  codeAny (model P w) A (.call (.ref f) args) (CR CX outer P w H s Q E) s
section
variable{X:Cx}{pins:List (Addr×Obj)}{σ:St}{H:Hp}{s s':Shared}
theorem Inv.env0(I:Inv X pins σ H s):Env0 X.prog X.w X.K X.mg X.base X.A X.stack s H:=
 ⟨I.ok.frames,I.ok.mod,I.bs,Nat.le_trans I.ok.bsz I.sz,I.stack,I.stkFree,I.hok,I.bare⟩
theorem Inv.after{Q:VK}{u:Value}(I:Inv X pins σ H s)(h:CE X.stack X.prog X.w H s Q u s'):EP X pins σ Q u s':=by
 obtain⟨v,H',os,bare,un,hok,r,q⟩:=h;obtain⟨hh,g,d,t,os'⟩:=s';obtain rfl:os'=s.os:=os;exact⟨v,H',I.call (h':=hh) (g':=g) (d':=d) (t':=t) (ch:=[]) un hok bare (fun b z=>absurd z (by simp)),r,q⟩
end
noncomputable def z7Q(sp:Sp)(dvs:List V)(E:XK)(t:TA):TE:=fun σ H Q=>t σ H fun vs H1=>sp (vs++dvs) H1 Q E
def Binds(K:W.Frag)(fd:FuncData)(ps:List Str)(ds:List Value):Prop:=
 ∀(s:Shared) (us:List Value),K.In s.heap->(us++ds).length=ps.length->BindsTo s fd ⟨us,[]⟩ (ps.zip (us++ds))
theorem Binds.all{K:W.Frag}{fd:FuncData}{ps:List Str}(h:∀us:List Value,us.length=ps.length->bindArgs fd ⟨us,[]⟩=pure (ps.zip us)):Binds K fd ps []:=fun s us _ hl=>by
 rw[List.append_nil]at hl |-;exact .of_eq (h us hl)
def ub(CX:CXT)(X:Cx)(E:XK):Prop:=∀(pins:List (Addr×Obj)) (σ:St) (H:Hp) (s:Shared) (e:Value) (s':Shared),Inv X pins σ H s->CX X.stack H s E e s'->X.xe e s'
section
variable{X:Cx}{CX:CXT}{k:Nat}{f C:Addr}{fd:FuncData}{ps:List Str}{sp:Sp}{dvs:List V}{ds:List Value}{E:XK}{x m:Str}{p pos apos:Pos}{e o:Expr}{es:List Expr}{ta:TE}{t:TA}
theorem z6J{pins:List (Addr×Obj)}{σ:St}{H:Hp}{s:Shared}{Q:VK}{us:List Value}{vs:List V}(F:FnOk X.prog X.w X.K X.mg X.base CX k f fd ps sp)(hr:Room k X.A)(hb:Binds X.K fd ps ds)(hd:Vals dvs ds)(hx:ub CX X E)
  (I:Inv X pins σ H s) (r:Vals vs us) (h:sp (vs++dvs) H Q E):wpAny (model X.prog X.w) X.A (call (.ref f) us) (EP X pins σ Q) X.xe s:=by
 have r2:Vals (vs++dvs) (us++ds):=r.append hd;have hl:(us++ds).length=ps.length:=by rw[<-r2.length];exact F.len _ _ _ _ h
 refine wpAny_call (codeAny_mono (F.run X.A X.stack s H ⟨us,[]⟩ (us++ds) (vs++dvs) Q E hr I.env0 (hb s us I.kIn hl) r2 h) fun r s' hq=>?_);cases r with
 | error e=>exact hx pins σ H s e s' I hq
 | ok fl=>
  cases fl with
  | ret u=>exact I.after hq
  | next=>exact False.elim hq
  | brk=>exact False.elim hq
  | cont=>exact False.elim hq
theorem z6P(F:FnOk X.prog X.w X.K X.mg X.base CX k f fd ps sp)(hr:Room k X.A)(hg:Gl X x)(hm:X.mg x=some (.ref f))(hk:W.keepIn X.K (.ref f)=true)(hb:Binds X.K fd ps ds)(hd:Vals dvs ds)(hx:ub CX X E)
  (ha:PA X (e::es) t) (hdb:(x == ("__debug__":Str))=false:=by decide) (he:starEach (e::es) X.env=(false,eval e X.env)::starEach es X.env:=by rfl) (hpl:(backTo pos (starEach es X.env)).any (·.1)=false:=by rfl) :
  PE X (.Call (.Name x p) (e::es) [] pos) (z7Q sp dvs E t):=by
 intro pins s σ H Q I h;refine wpAny_Call_Name_kw (z4S I hg hm ?_ hdb);refine W.callWith_K (h₀:=X.base) I.ok.mod.kin hk (thn (ha pos pins s σ H _ I h) fun us s1 ⟨vs,H1,I1,r,q⟩=>⟨I1.kIn,?_⟩) he hpl;exact z6J F hr hb hd hx I1 r q
end
def PK(X:Cx)(kws:List Keyword)(t:TA):Prop:=
 ∀(pos:Pos) (pins:List (Addr×Obj)) (s:Shared) (σ:St) (H:Hp) (Q:List V->Hp->Prop),Inv X pins σ H s->t σ H Q->wpAny (model X.prog X.w) X.A (evalAll ((backToKw pos (keywordEach kws X.env)).map (·.2))) (AP X pins σ Q) X.xe s
section
variable{X:Cx}{CX:CXT}{k:Nat}{f C:Addr}{fd:FuncData}{ps ks:List Str}{sp:Sp}{E:XK}{x m:Str}{p pos apos kpos:Pos}{e o:Expr}{es:List Expr}{kws:List Keyword}{te ta:TE}{t tk:TA}{nm:Option Str}
theorem z81:PK X [] tNil:=fun _ _ _ _ H Q I h=>wpAny_evalAll_nil ⟨[],H,I,.nil,h⟩
theorem z6T(ha:PE X e te)(hr:PK X kws t):PK X (⟨nm,e,kpos⟩::kws) (xb te t):=by
 intro pos pins s σ H Q I h;show wpAny _ _ (evalAll ((do let v<-eval e X.env;standAt pos;pure v)::(backToKw pos (keywordEach kws X.env)).map (·.2))) _ _ s;refine wpAny_evalAll_cons (wpAny_bind (thn (ha pins s σ H _ I h) fun u s1 ⟨x,H1,I1,r1,q1⟩=>wpAny_bind (wpAny_standAt (wpAny_pure ?_))));exact thn (hr pos pins s1 σ H1 _ I1 q1) fun us s2 ⟨xs,H2,I2,r2,q2⟩=>⟨x::xs,H2,I2,.cons r1 r2,q2⟩
variable{g:List Value->List Value->List Value}{gV:List V->List V->List V}
end
structure FnScope(N P:List Str)(sc:Scope):Prop where
 kind:sc.kind=.function
 co:sc.isCoroutine=false
 gen:sc.isGenerator=false
 nd:N.Nodup
 pre:N.take P.length=P
 par:∀x∈P,sc.names.lookup x=some .local\/sc.names.lookup x=some .cell
 nofree:∀y∈sc.names,y.2≠.free
theorem z0i{kindOf:Str->Option NameKind}{x:Str}:∀{binds:List (Str×Value)} {m:Str->Option Value},(∀v,(x,v)∉binds)->bindL kindOf binds m x=m x
 | [],_,_=>rfl
 | (n,v)::r,m,h=>by
  unfold bindL;rw[z0i fun w hw=>h w (List.mem_cons_of_mem _ hw)];split
  ·have:x≠n:=by rintro rfl;exact h v List.mem_cons_self
   simp[this]
  ·rfl
theorem z0f{kindOf:Str->Option NameKind}{x:Str}:∀{binds:List (Str×Value)} {m:Str->Option Value},(∀v,(x,v)∉binds)->bindC kindOf binds m x=m x
 | [],_,_=>rfl
 | (n,v)::r,m,h=>by
  unfold bindC;rw[z0f fun w hw=>h w (List.mem_cons_of_mem _ hw)];split
  ·rfl
  ·have:x≠n:=by rintro rfl;exact h v List.mem_cons_self
   simp[this]
theorem z19{kindOf:Str->Option NameKind}{x:Str}{v:Value}:∀{P:List Str} {vs:List Value} {i:Nat} {m:Str->Option Value},P.Nodup->P[i]?=some x->vs[i]?=some v->kindOf x=some .local->
  bindL kindOf (P.zip vs) m x=some v
 | [],_,_,_,_,h,_,_=>by simp at h
 | _::_,[],_,_,_,_,h,_=>by simp at h
 | p::P,w::vs,0,m,nd,h1,h2,hk=>by
  simp at h1 h2;subst h1;subst h2;show bindL kindOf ((p,w)::P.zip vs) m p=_;unfold bindL;rw[z0i fun v hv=>(List.nodup_cons.mp nd).1 (List.of_mem_zip hv).1,if_pos hk];simp
 | p::P,w::vs,i+1,m,nd,h1,h2,hk=>by
  show bindL kindOf ((p,w)::P.zip vs) m x=_;unfold bindL;exact z19 (i:=i) (List.nodup_cons.mp nd).2 (by simpa using h1) (by simpa using h2) hk
theorem z16{kindOf:Str->Option NameKind}{x:Str}{v:Value}:∀{P:List Str} {vs:List Value} {i:Nat} {m:Str->Option Value},P.Nodup->P[i]?=some x->vs[i]?=some v->kindOf x≠some .local->
  bindC kindOf (P.zip vs) m x=some v
 | [],_,_,_,_,h,_,_=>by simp at h
 | _::_,[],_,_,_,_,h,_=>by simp at h
 | p::P,w::vs,0,m,nd,h1,h2,hk=>by
  simp at h1 h2;subst h1;subst h2;show bindC kindOf ((p,w)::P.zip vs) m p=_;unfold bindC;rw[z0f fun v hv=>(List.nodup_cons.mp nd).1 (List.of_mem_zip hv).1,if_neg hk];simp
 | p::P,w::vs,i+1,m,nd,h1,h2,hk=>by
  show bindC kindOf ((p,w)::P.zip vs) m x=_;unfold bindC;exact z16 (i:=i) (List.nodup_cons.mp nd).2 (by simpa using h1) (by simpa using h2) hk
noncomputable def start(N:List Str)(vs:List V):St:=vs.map some++List.replicate (N.length - vs.length) none
noncomputable def cxOf(CX:CXT)(P:Program)(w:World)(K:W.Frag)(mg:Str->Option Value)(base:Heap)(N:List Str)(qual:Str)(scope:Scope)(f:Addr)(cd:Value)(A:Around)(outer:List Env)(s:Shared)(H:Hp)(E:XK):Cx where
 prog:=P
 w:=w
 K:=K
 mg:=mg
 base:=base
 A:=A.deeper (envOfC qual scope s.heap.objs.size f cd)
 N:=N
 s₀:=s
 H₀:=H
 env:=envOfC qual scope s.heap.objs.size f cd
 outer:=outer
 stack:=envOfC qual scope s.heap.objs.size f cd::outer
 ex:=[]
 calm:=true
 fn:=fun _=>true
 pn:=[]
 xe:=fun e s'=>wpAny (model P w) (A.deeper (envOfC qual scope s.heap.objs.size f cd)) (leaving (envOfC qual scope s.heap.objs.size f cd) e) (fun _ s''=>CX outer H s E e s'') (fun e' s''=>CX outer H s E e' s'') s'
theorem z2R{sc:Scope}{n:Nat}{x:Str}(h:sc.names.lookup x=some .cell):∃c,(cellsFrom n sc.names []).lookup x=some c:=by
 have q:=W.cellsFrom_some sc.names n [] (.inl h);exact Option.isSome_iff_exists.mp q
theorem z3t{CX:CXT}{P:Program}{w:World}{K:W.Frag}{mg:Str->Option Value}{base:Heap}{N ps:List Str}{qual:Str}{scope:Scope}{f:Addr}{cd:Value}{A:Around}{outer:List Env}{s s1:Shared}{H:Hp}{E:XK}{us:List Value}{vs:List V}
  (S:FnScope N ps scope) (hd:A.handled=none) (e0:Env0 P w K mg base A outer s H) (hl:vs.length=ps.length) (r:Vals vs us)
  (x:InCallC s s.heap.objs.size (bindL (envOfC qual scope s.heap.objs.size f cd).kindOf (ps.zip us) fun _=>none) (cellsFrom (s.heap.objs.size+1) scope.names []) (bindC (envOfC qual scope s.heap.objs.size f cd).kindOf (ps.zip us) fun _=>none) s1) :
  Inv (cxOf CX P w K mg base N qual scope f cd A outer s H E) [] (start N vs) H s1:=by
 have hpl:ps.length<=N.length:=by have:=congrArg List.length S.pre;rw[List.length_take]at this;omega
 obtain⟨h1,tk,rfl,hk⟩:=x.done;have noA:∀b:Addr,b∉(cxOf CX P w K mg base N qual scope f cd A outer s H E).ex:=fun b z=>absurd (show b∈([]:List Addr) from z) (by simp);refine⟨⟨e0.mod,S.kind,rfl,rfl,Nat.le_refl _,fun y z c h1 h2=>?_,fun y hy=>?_,fun y c _ h=>?_,fun _=>hd,Around.frames_deeper e0.frames,.inr ⟨rfl,rfl⟩,fun b z=>absurd z (noA b),e0.bs,e0.bsz,fun b _ _=>noA b,fun b z=>absurd z (noA b),e0.funs,e0.frf⟩,
  rfl,e0.bare,Un.kept hk,⟨_,x.toInCall.ns,fun i y v h1 h2 h3=>?_⟩,fun y c h=>⟨_,x.cell y c h⟩,e0.hok.fresh (Nat.le_refl _),fun y c h=>?_,fun p hp=>absurd (show p∈([]:List (Addr×Obj)) from hp) (by simp),e0.hok.kept hk,?_⟩
 ·exact name_of_addr x.apart (PySem.mem_of_lookup h1) (PySem.mem_of_lookup h2)
 ·have hy:scope.names.lookup y=some .cell\/scope.names.lookup y=some .free:=hy;rcases hy with hy | hy
  ·exact z2R hy
  ·exact absurd rfl (S.nofree _ (PySem.mem_of_lookup hy))
 ·exact Nat.le_of_lt (x.above y c (PySem.mem_of_lookup h))
 ·have hi:i<vs.length:=by
   unfold start at h2;by_cases hi:i<vs.length
   ·exact hi
   ·rw[List.getElem?_append_right (by simpa using hi)]at h2;rw[List.getElem?_replicate]at h2;split at h2<;>cases h2
  have ha:vs[i]?=some v:=by
   unfold start at h2;rw[List.getElem?_append_left (by simpa using hi),List.getElem?_map]at h2;cases e:vs[i]? with
   | none=>rw[e]at h2;cases h2
   | some a=>rw[e]at h2;cases h2;rfl
  obtain⟨u,hu,rv⟩:=r.get ha;have hp:ps[i]?=some y:=by
   rw[<-S.pre,List.getElem?_take_of_lt (by omega)];exact h1
  have ndP:ps.Nodup:=by rw[<-S.pre];exact S.nd.sublist (List.take_sublist _ _)
  refine⟨u,rv,?_⟩;rcases S.par y (List.mem_of_getElem? hp)with k | k
  ·exact .inl ⟨k,z19 ndP hp hu k⟩
  ·obtain⟨c,e⟩:=z2R (n:=s.heap.objs.size+1) k;refine .inr ⟨.inl k,c,e,?_⟩;have q:=x.cell y c e;rw[z16 ndP hp hu (by show scope.names.lookup y≠_;rw[k];decide)]at q;exact q
 ·exact e0.hok.fresh (Nat.le_of_lt (x.above y c (PySem.mem_of_lookup h)))
 ·unfold start;show _=N.length;rw[List.length_append,List.length_map,List.length_replicate];omega
theorem z8a{CX:CXT}{P:Program}{w:World}{K:W.Frag}{mg:Str->Option Value}{base:Heap}{k:Nat}{f:Addr}{name qual:Str}{params:Arguments}{body:List Stmt}{scope:Scope}{dV kV doc pm cdv ct oc:Value}{an od:Option Addr}
  {osl:Array (Option Value)} {N ps:List Str} {sp:Sp} (lk:K.lookup f=some ⟨oc,od,.func (W.fnOf name qual params body scope dV kV doc pm an cdv ct),osl⟩) (hcd:W.codeIn K cdv qual=true) (S:FnScope N ps scope)
  (len:∀vs H Q E,sp vs H Q E->vs.length=ps.length)
  (hbody:∀(A:Around) (outer:List Env) (s:Shared) (H:Hp) (vs:List V) (Q:VK) (E:XK),Room k (A.deeper (envOfC qual scope s.heap.objs.size f cdv))->sp vs H Q E->
   ∃t,PSs (cxOf CX P w K mg base N qual scope f cdv A outer s H E) body t/\t { nx:=fun _ H'=>Q .non H',rt:=Q } (start N vs) H) :
  FnOk P w K mg base CX (k+1) f (W.fnOf name qual params body scope dV kV doc pm an cdv ct) ps sp:=by
 refine⟨len,fun A outer s H args us vs Q E hr e0 hb r hsp=>?_⟩;have hl:=len _ _ _ _ hsp;have KX:K.In s.heap:=e0.mod.kin.keeps fun b o e=>(e0.bs b o e).1;have lim:s.heap.NoLimit:=e0.mod.nolimit.keeps fun b o e=>(e0.bs b o e).1;have hkind:∀y∈ps.zip us,scope.names.lookup y.1=some .local\/(scope.names.lookup y.1=some .cell/\((cellsFrom (s.heap.objs.size+1) scope.names []).lookup y.1).isSome=true):=fun⟨n,v⟩ hy=>by
  rcases S.par n (List.of_mem_zip hy).1 with q | q
  ·exact .inl q
  ·exact .inr ⟨q,W.cellsFrom_some _ _ _ (.inl q)⟩
 refine codeAny_call_function hr.depth (KX _ _ lk) rfl S.co S.gen rfl (W.codeRec_of KX hcd) (hb _ _ _ _ ?_);refine wpAny_newFunctionEnv_cells S.kind hkind fun env he s1 x=>?_;subst he;refine⟨lim.keeps x.toInCall.keep,codeAny_func ?_⟩;obtain⟨t,ht,hq⟩:=hbody A outer s H vs Q E (hr.deeper _) hsp;have I:Inv (cxOf CX P w K mg base N qual scope f cdv A outer s H E) [] (start N vs) H s1:=z3t S hr.hd e0 hl r x;refine wpAny_mono (ht [] s1 (start N vs) H _ I hq) (fun fl s' hs=>?_) fun e s' hs=>hs;have fin:∀{σ':St} {H':Hp} {v:V} {u:Value},Inv (cxOf CX P w K mg base N qual scope f cdv A outer s H E) [] σ' H' s'->RelV v u->Q v H'->CE outer P w H s Q u s':=
  fun{σ' H' v u} J rv q=>⟨v,H',J.os,J.bare,J.base,J.hok,rv,q⟩
 cases fl with
 | ret u=>
  obtain⟨v,σ',H',J,rv,q⟩:=hs;exact fin J rv q
 | next=>
  obtain⟨σ',H',J,q⟩:=hs;exact fin (v:=V.non) (u:=Value.none) J rfl q
 | brk=>
  obtain⟨_,_,_,q⟩:=hs;exact False.elim q
 | cont=>
  obtain⟨_,_,_,q⟩:=hs;exact False.elim q
section
variable{X:Cx}{x:Str}{p pos:Pos}{e:Expr}{es:List Expr}{t:TA}{id T:String}{r:List V->Hp->VK->Prop}
noncomputable def tCB(r:List V->Hp->VK->Prop)(t:TA):TE:=fun σ H Q=>t σ H fun vs H1=>r vs H1 Q
theorem yD(hc:CallR X (.builtin id) r)(hg:Gl X x)(hm:X.mg x=none)(hv:bootBuiltins x=some (.builtin id))(ha:PA X (e::es) t)(hn:x≠"__name__":=by decide)(hdb:(x == ("__debug__":Str))=false:=by decide)
  (he:starEach (e::es) X.env=(false,eval e X.env)::starEach es X.env:=by rfl) (hpl:(backTo pos (starEach es X.env)).any (·.1)=false:=by rfl):PE X (.Call (.Name x p) (e::es) [] pos) (tCB r t):=by
 intro pins s σ H Q I h;refine wpAny_Call_Name_kw (wZ I hg hm hv ?_ hn hdb);exact PyProof.Rows.callWith_builtin1 (thn (ha pos pins s σ H _ I h) fun us s1 ⟨vs,H1,I1,r1,q1⟩=>hc pins s1 σ H1 vs us Q I1 r1 q1) he hpl
theorem yZ(hc:CallR X (.type T) r)(hg:Gl X x)(hm:X.mg x=none)(hv:bootBuiltins x=some (.type T))(ha:PA X (e::es) t)(hn:x≠"__name__":=by decide)(hdb:(x == ("__debug__":Str))=false:=by decide)
  (he:starEach (e::es) X.env=(false,eval e X.env)::starEach es X.env:=by rfl) (hpl:(backTo pos (starEach es X.env)).any (·.1)=false:=by rfl):PE X (.Call (.Name x p) (e::es) [] pos) (tCB r t):=by
 intro pins s σ H Q I h;refine wpAny_Call_Name_kw (wZ I hg hm hv ?_ hn hdb);exact PyProof.Rows.callWith_type1 (thn (ha pos pins s σ H _ I h) fun us s1 ⟨vs,H1,I1,r1,q1⟩=>hc pins s1 σ H1 vs us Q I1 r1 q1) he hpl
end
end L2
namespace HT
open PySem PyProof.Rows
noncomputable def lexLt:List Int->List Int->Bool
 | [],[]=>false
 | [],_::_=>true
 | _::_,[]=>false
 | x::xs,y::ys=>if x=y then lexLt xs ys else decide (x<y)
theorem lexLt_cons(x y:Int)(xs ys:List Int):lexLt (x::xs) (y::ys)=if x=y then lexLt xs ys else decide (x<y):=rfl
theorem z0K:lexLt [] []=false:=rfl
theorem uU(y:Int)(ys:List Int):lexLt [] (y::ys)=true:=rfl
theorem uT(x:Int)(xs:List Int):lexLt (x::xs) []=false:=rfl
theorem z5S(A:Around)(s:Shared)(a:Int)(t:Tok)(c:Int)(u:Tok):∃e,SeqAt.EqAt A s (.int a t) (.int c u) e/\(e=true↔a=c):=
 ⟨(a == c),SeqAt.EqAt.int_int a t c u,by simp⟩
theorem rcLt_int(A:Around)(s:Shared)(a:Int)(t:Tok)(c:Int)(u:Tok)(prog:Program)(w:World)(E:Value->Shared->Prop)(Q:Value->Shared->Prop)(h:Q (.bool (decide (a<c))) s):
  wpAny (model prog w) A (richCompare .Lt (.int a t) (.int c u)) Q E s:=
 (PyProof.Rows.lt_int h:wpAny (model prog w) A (compareOp .Lt (.int a t) (.int c u)) Q E s)
section
open PySem.SeqAt
open PySem.AutoSeq1 (wpAny_loadPart')
open PySem.MeetsSeq PySem.MeetsSeq2 PySem.MeetsSeq3
theorem z0V(l b:Addr)(items items2:Array Value)(n n2:Nat)(dd dd2:Option Addr)(sl sl2:Array (Option Value))(ns ms:List Int)(hi:IntsAre items.toList ns)(hj:IntsAre items2.toList ms):
  Meets (Builtin.«tuple.__lt__» ⟨[.ref l,.ref b],[]⟩)
   (fun _ R s=>s.heap.get? l=some { cls:=.type "tuple",dict:=dd,data:=.seq items n,slots:=sl }/\s.heap.get? b=some { cls:=.type "tuple",dict:=dd2,data:=.seq items2 n2,slots:=sl2 }/\
    R (.ok (.ret (.bool (lexLt ns ms)))) s):=
 .of_wp fun prog w A R s h=>by
  obtain⟨hp,g,d,tk,os⟩:=s;obtain⟨hl,hb,h⟩:=h;have f2:=AutoSeq1.sub_tuple_tuple;have z1:items.size=ns.length:=by rw[<-hi.length];simp
  have z2:items2.size=ms.length:=by rw[<-hj.length];simp
  wp_walk using wpAny_loadPart' hl,wpAny_loadPart' hb,wpAny_forIn_list _ (fun rest b s'=>b.1=none/\s'=⟨hp,g,d,tk,os⟩/\∃(vs ws:List Value) (ns' ms':List Int),rest=vs.zip ws/\
   IntsAre vs ns'/\IntsAre ws ms'/\ns'.length+items2.size=ms'.length+items.size/\R (.ok (.ret (.bool (lexLt ns' ms')))) ⟨hp,g,d,tk,os⟩) _
  case turn=>
   rintro⟨y,x⟩ rest b s' ⟨hb',rfl,vs,ws,ns',ms',hz,hvi,hwi,hlen,hR⟩;cases hvi with
   | nil=>rw[List.zip_nil_left]at hz;cases hz
   | cons a t hvi'=>
    cases hwi with
    | nil=>rw[List.zip_nil_right]at hz;cases hz
    | cons c u hwi'=>
     rw[List.zip_cons_cons]at hz;injection hz with hyx hrest
     injection hyx with hy hx
     subst hy hx;rw[lexLt_cons]at hR;simp only[List.length_cons]at hlen;obtain⟨e,he,hiff⟩:=z5S A.in1 ⟨hp,g,d,tk,os⟩ a t c u;refine wpAny_bind (he prog w _ _ ?_);cases e with
     | true=>
      rw[if_pos (hiff.mp rfl)]at hR
      wp_walk
      exact⟨rfl,rfl,_,_,_,_,hrest,hvi',hwi',by omega,hR⟩
     | false=>
      rw[if_neg (fun q=>absurd (hiff.mpr q) Bool.false_ne_true)]at hR;have hri:=rcLt_int A.in1 ⟨hp,g,d,tk,os⟩ a t c u prog w
      wp_walk using hri
      exact⟨_,rfl,by simpa using hR⟩
  case fin=>
   rintro⟨b1,b2⟩ s' ⟨hb',rfl,vs,ws,ns',ms',hz,hvi,hwi,hlen,hR⟩;simp only at hb';subst hb';have hv:lexLt ns' ms'=decide (items.size<items2.size):=by
    cases hvi with
    | nil=>
     cases hwi with
     | nil=>
      simp only[List.length_nil]at hlen;rw[z0K];exact(decide_eq_false (by omega)).symm
     | cons c u hw=>
      simp only[List.length_nil,List.length_cons]at hlen;rw[uU];exact(decide_eq_true (by omega)).symm
    | cons a t hv=>
     cases hwi with
     | nil=>
      simp only[List.length_nil,List.length_cons]at hlen;rw[uT];exact(decide_eq_false (by omega)).symm
     | cons c u hw=>
      rw[List.zip_cons_cons]at hz;cases hz
   rw[hv]at hR
   wp_walk
   exact⟨_,rfl,by simpa[Builtin.Tuple.tupleCompareSizes]using hR⟩
  case h=>
   exact⟨rfl,rfl,items.toList,items2.toList,ns,ms,rfl,hi,hj,by omega,h⟩
end
section
variable{prog:Program}{w:World}{A:Around}{E:Value->Shared->Prop}{s:Shared}
theorem lt_tupInts{l b:Addr}{items items2:Array Value}{ns ms:List Int}{Q:Value->Shared->Prop}(hl:IsTup s.heap l items)(hb:IsTup s.heap b items2)(hi:IntsAre items.toList ns)(hj:IntsAre items2.toList ms)
  (hu:A.units<cLine) (h:Q (.bool (lexLt ns ms)) s):wpAny (model prog w) A (compareOp .Lt (.ref l) (.ref b)) Q E s:=by
 obtain⟨⟨cls,dd,data,sl⟩,ho,hc,n,hd⟩:=id hl;obtain⟨⟨cls2,dd2,data2,sl2⟩,ho2,hc2,n2,hd2⟩:=id hb;simp only at hc hd hc2 hd2;subst hc hd hc2 hd2;exact richCompare_meets_room (op:=.Lt) ⟨_,ho,rfl⟩ ⟨_,ho2,rfl⟩ PySem.F.slot_tuple_lt PySem.F.entry_tuple_lt (PySem.F.args_tuple_lt_2 _ _) (z0V l b items items2 n n2 dd dd2 sl sl2 ns ms hi hj)
  ⟨ho,ho2,show Value.bool (lexLt ns ms)≠Value.notImplemented/\Q (.bool (lexLt ns ms)) s from⟨(fun x=>nomatch x),h⟩⟩ hu
theorem cat_tup{t b:Addr}{vs ws:List Value}{Q:Value->Shared->Prop}(ht:IsTup s.heap t vs.toArray)(hb:IsTup s.heap b ws.toArray)(hv:vs≠[])
  (h1:ws=[]->Q (.ref t) s) (h2:ws≠[]->Q (.ref s.heap.objs.size) { s with heap:=s.heap.push { cls:=.type "tuple",data:=.seq (vs++ws).toArray } })
  (hsz:vs.length+ws.length<=sizeLine):wpAny (model prog w) A (binaryOp .Add (.ref t) (.ref b)) Q E s:=by
 obtain⟨⟨cls,dd,data,sl⟩,ho,hc,n,hd⟩:=id ht;obtain⟨⟨cls2,dd2,data2,sl2⟩,ho2,hc2,n2,hd2⟩:=id hb;simp only at hc hd hc2 hd2;subst hc hd hc2 hd2;have e:vs.toArray++ws.toArray=(vs++ws).toArray:=by simp
 by_cases hw:ws=[]
 ·exact concat_meets ⟨_,ho,rfl⟩ ⟨_,ho2,rfl⟩ noFill_tuple_add seq_tuple_add PySem.F.slot_tuple_add PySem.F.entry_tuple_add (PySem.F.args_tuple_add_2 _ _)
   (tuple_addW1 t b vs.toArray ws.toArray n n2 dd dd2 sl sl2 (by simpa using hv) (by simp[hw])) ⟨ho,ho2,h1 hw⟩
 ·refine concat_meets ⟨_,ho,rfl⟩ ⟨_,ho2,rfl⟩ noFill_tuple_add seq_tuple_add PySem.F.slot_tuple_add PySem.F.entry_tuple_add (PySem.F.args_tuple_add_2 _ _)
   (tuple_addW2 t b vs.toArray ws.toArray n n2 dd dd2 sl sl2 (by simpa using hv) (by simpa using hw) (by rw[List.size_toArray,List.size_toArray];exact hsz)) ⟨ho,ho2,?_⟩
  rw[e];exact h2 hw
end
end HT
namespace L2
open PySem PySem.Spec PyProof.Rows
noncomputable abbrev TO:=St->Hp->(Option Int->Hp->Prop)->Prop
theorem intsAre_of{ns:List Int}:∀{us:List Value},Vals (ns.map V.int) us->IntsAre us ns:=by
 induction ns with
 | nil=>intro us r;rw[List.map_nil]at r;cases r;exact .nil
 | cons n ns ih=>
  intro us r;rw[List.map_cons]at r;cases r with
  | cons r1 r2=>
   obtain⟨t,e⟩:=r1;subst e;exact .cons n t (ih r2)
section
variable{X:Cx}{e:Expr}{te:TE}{lo hi:Option Expr}{tl th:TO}{pos p2:Pos}
noncomputable def rLtT(K:W.Frag):R2:=fun x y H Q=>∃a b ns ms,x=.ref a/\y=.ref b/\SqT K H a (ns.map V.int)/\SqT K H b (ms.map V.int)/\Q (.bl (HT.lexLt ns ms)) H
theorem z82(hu:X.A.units<cLine):OpR X (compareOp .Lt) (rLtT X.K):=by
 intro pins s σ H x y v u Q I rx ry h;obtain⟨a,b,ns,ms,rfl,rfl,ha,hb,q⟩:=h;cases rx;cases ry;obtain⟨its,r1,p1,_⟩:=I.tuple ha;obtain⟨its2,r2,p2,_⟩:=I.tuple hb;have i1:IntsAre its.toArray.toList ns:=intsAre_of r1;have i2:IntsAre its2.toArray.toList ms:=intsAre_of r2;exact HT.lt_tupInts p1 p2 i1 i2 hu ⟨.bl (HT.lexLt ns ms),H,I,rfl,q⟩
noncomputable def z8q(K:W.Frag):R2:=fun x y H Q=>∃a b xs ys,x=.ref a/\y=.ref b/\SqT K H a xs/\SqT K H b ys/\xs≠[]/\xs.length+ys.length<=sizeLine/\
 (ys=[]->Q (.ref a) H)/\(ys≠[]->∀p,H p=none->Q (.ref p) (upd H p (.tup (xs++ys))))
theorem Vals.nil_iff{xs:List V}{us:List Value}(r:Vals xs us):us=[]↔xs=[]:=by
 cases r with
 | nil=>simp
 | cons _ _=>simp
theorem z6X:OpR X (binaryOp .Add) (z8q X.K):=by
 intro pins s σ H x y v u Q I rx ry h;obtain⟨a,b,xs,ys,rfl,rfl,ha,hb,hx,hz,q1,q2⟩:=h;cases rx;cases ry;obtain⟨its,r1,p1,_⟩:=I.tuple ha;obtain⟨its2,r2,p2,_⟩:=I.tuple hb;refine HT.cat_tup p1 p2 (fun z=>hx (r1.nil_iff.mp z)) (fun z=>⟨.ref a,H,I,rfl,q1 (r2.nil_iff.mp z)⟩) (fun z=>?_) (by rw[<-r1.length,<-r2.length];exact hz);refine⟨.ref s.heap.objs.size,_,I.laid (t':=s.toks) (o:=.tup (xs++ys)) (fun b ob q=>Heap.get?_push_of_some _ q) (Nat.le_refl _) ?_,rfl,q2 (fun w=>z (r2.nil_iff.mpr w)) _ (I.hok.fresh (Nat.le_refl _))⟩;exact⟨⟨by rw[List.length_append];exact hz,_,Heap.get?_push_size _ rfl,rfl⟩,_,r1.append r2,IsTup.new _ _⟩
end
noncomputable def ixN(n:Nat)(i:Int):Option Nat:=if 0<=i then(if i<n then some i.toNat else none)else if -(n:Int)<=i then some (i+n).toNat else none
noncomputable def atI{α:Type}(xs:List α)(i:Int):Option α:=(ixN xs.length i).bind fun j=>xs[j]?
theorem z78{n:Nat}{i:Int}{j:Nat}(h:ixN n i=some j):seqIndex? i n=some j/\j<n /\ -(n:Int)<=i/\i<n:=by
 unfold ixN at h;by_cases h0:0<=i
 ·rw[if_pos h0]at h;by_cases h1:i<n
  ·rw[if_pos h1]at h;have e:i.toNat=j:=Option.some.inj h;exact⟨by rw[seqIndex_of h0 h1,e],by omega,by omega,h1⟩
  ·rw[if_neg h1]at h;cases h
 ·rw[if_neg h0]at h;by_cases h1 : -(n:Int)<=i
  ·rw[if_pos h1]at h;have e:(i+n).toNat=j:=Option.some.inj h;exact⟨by rw[seqIndex_neg (by omega) h1,e],by omega,h1,by omega⟩
  ·rw[if_neg h1]at h;cases h
theorem z4C{α:Type}{xs:List α}{i:Int}{v:α}(h:atI xs i=some v):∃j,seqIndex? i xs.length=some j/\xs[j]?=some v/\j<xs.length /\ -(xs.length:Int)<=i/\i<xs.length:=by
 unfold atI at h;cases e:ixN xs.length i with
 | none=>rw[e]at h;cases h
 | some j=>
  rw[e]at h;obtain⟨h1,h2,h3,h4⟩:=z78 e;exact⟨j,h1,h,h2,h3,h4⟩
theorem u5{α:Type}{xs:List α}{j:Nat}{v:α}(h:xs[j]?=some v):atI xs (j:Int)=some v:=by
 have hj:j<xs.length:=(List.getElem?_eq_some_iff.mp h).1;have e:ixN xs.length (j:Int)=some j:=by
  unfold ixN;rw[if_pos (by omega),if_pos (by omega)];simp
 unfold atI;rw[e];exact h
def z4e(b:Expr):Prop:=∀o i,subscripted b false o i=operate [o,i] (getItem o i)
def IxR(X:Cx)(r:R2):Prop:=
 ∀(value slice:Expr) (pins:List (Addr×Obj)) (s:Shared) (σ:St) (H:Hp) (x y:V) (v u:Value) (Q:VK),Inv X pins σ H s->RelV x v->RelV y u->r x y H Q->
  subscripted slice false v u=operate [v,u] (getItem v u)->wpAny (model X.prog X.w) X.A (subscriptTail value slice v u) (EP X pins σ Q) X.xe s
def MtR(X:Cx)(id:String)(r:V->List V->Hp->VK->Prop):Prop:=
 ∀(pins:List (Addr×Obj)) (s:Shared) (σ:St) (H:Hp) (x:V) (xs:List V) (v:Value) (us:List Value) (Q:VK),Inv X pins σ H s->RelV x v->Vals xs us->r x xs H Q->
  wpAny (model X.prog X.w) X.A (call (.builtin id) (v::us)) (EP X pins σ Q) X.xe s
section
variable{X:Cx}{a b:Expr}{ta tb:TE}{pos:Pos}
theorem IxR.or{r r':R2}(h:IxR X r)(h':IxR X r'):IxR X (fun x y H Q=>r x y H Q\/r' x y H Q):=by
 intro value slice pins s σ H x y v u Q I rx ry q hs;rcases q with q | q
 ·exact h value slice pins s σ H x y v u Q I rx ry q hs
 ·exact h' value slice pins s σ H x y v u Q I rx ry q hs
theorem uD{r:R2}(hr:IxR X r)(ha:PE X a ta)(hb:PE X b tb)(hs:z4e b):PE X (.Subscript a b pos) (tOp r ta tb):=by
 intro pins s σ H Q I h;exact Subscript_ (binT ha hb I h fun v u s2 x y H2 I2 rx ry q=>hr a b pins s2 σ H2 x y v u Q I2 rx ry q (hs _ _))
noncomputable def rIxL(K:W.Frag):R2:=fun x y H Q=>∃p xs i v,x=.ref p/\y=.int i/\SqL K H p xs/\atI xs i=some v/\Q v H
noncomputable def rIxT(K:W.Frag):R2:=fun x y H Q=>∃p xs i v,x=.ref p/\y=.int i/\SqT K H p xs/\atI xs i=some v/\Q v H
theorem ix_list:IxR X (rIxL X.K):=by
 intro value slice pins s σ H x y v u Q I rx ry h hs;obtain⟨p,xs,i,z,rfl,rfl,hq,he,q⟩:=h;cases rx;obtain⟨t,rfl⟩:=ry;obtain⟨its,r,pl,hz⟩:=I.list hq;obtain⟨j,h1,h2,h3,h4,h5⟩:=z4C he;obtain⟨w,ew,rw'⟩:=r.get h2;have hl:=r.length;have hn:=z15;have fin:EP X pins σ Q w s:=⟨z,H,I,rw',q⟩;by_cases h0:0<=i
 ·have hj:i.toNat=j:=by
   rw[seqIndex_of h0 h5]at h1;exact Option.some.inj h1
  exact item_listR pl.isList h0 (by omega) (by rw[hj];simpa using ew) fin hs
 ·have hj:(i+(its.toArray.size:Int)).toNat=j:=by
   rw[seqIndex_neg (by omega) h4]at h1;rw[List.size_toArray,<-hl];exact Option.some.inj h1
  exact subscriptTail_builtinR (x:=w) pl.isList.typeIs slot_list_getitem.lookup
   (wpAny_getItem_list_neg (Q:=fun r s'=>r=w/\EP X pins σ Q r s') pl.isList (by omega) (by rw[List.size_toArray]<;>omega) (by omega) (by rw[hj];simpa using ew) ⟨rfl,fin⟩) hs
theorem ix_tup:IxR X (rIxT X.K):=by
 intro value slice pins s σ H x y v u Q I rx ry h hs;obtain⟨p,xs,i,z,rfl,rfl,hq,he,q⟩:=h;cases rx;obtain⟨t,rfl⟩:=ry;obtain⟨its,r,pl,hz⟩:=I.tuple hq;obtain⟨j,h1,h2,h3,h4,h5⟩:=z4C he;obtain⟨w,ew,rw'⟩:=r.get h2;have hl:=r.length;have hn:=z15;have fin:EP X pins σ Q w s:=⟨z,H,I,rw',q⟩;exact subscriptTail_builtinR (x:=w) pl.typeIs slot_tuple_getitem.lookup
  (getItem_tuple (j:=j) (Q:=fun r s'=>r=w/\EP X pins σ Q r s') pl (by omega) (by omega) (by rw[List.size_toArray,<-hl];exact h1) (by simpa using ew) ⟨rfl,fin⟩) hs
theorem call_len_seq:CallR X (.builtin "len") (fun xs H Q=>∃p ys,xs=[.ref p]/\(SqL X.K H p ys\/SqT X.K H p ys)/\Q (.int ys.length) H):=by
 intro pins s σ H xs us Q I r h;obtain⟨p,ys,rfl,hq,q⟩:=h;obtain⟨u,rfl,rx⟩:=yq r;cases rx;have hn:=z15;rcases hq with hq | hq
 ·obtain⟨its,r',pl,hz⟩:=I.list hq;have hlen:=r'.length;exact Calls.call_len_list pl.isList (by simp only[List.size_toArray]<;>omega) ⟨.int ys.length,H,I.tok _,⟨s.toks+1,by rw[List.size_toArray,hlen]⟩,q⟩
 ·obtain⟨its,r',pl,hz⟩:=I.tuple hq;have hlen:=r'.length;exact len_tuple pl (by simp only[List.size_toArray]<;>omega) ⟨.int ys.length,H,I.tok _,⟨s.toks+1,by rw[List.size_toArray,hlen]⟩,q⟩
theorem z10:CallR X (.builtin "len") (fun xs H Q=>∃z,xs=[.str z]/\z.length<=sizeLine/\Q (.int z.length) H):=by
 intro pins s σ H xs us Q I r h;obtain⟨z,rfl,hz,q⟩:=h;obtain⟨u,rfl,t,rfl⟩:=yq r;have hn:=z15;exact len_str (by omega) ⟨.int z.length,H,I.tok _,⟨_,rfl⟩,q⟩
theorem CallR.or{f:Value}{r r':List V->Hp->VK->Prop}(h:CallR X f r)(h':CallR X f r'):CallR X f (fun xs H Q=>r xs H Q\/r' xs H Q):=by
 intro pins s σ H xs us Q I rs q;rcases q with q | q
 ·exact h pins s σ H xs us Q I rs q
 ·exact h' pins s σ H xs us Q I rs q
theorem call_tuple_of:CallR X (.type "tuple") (fun xs H Q=>∃p ys,xs=[.ref p]/\((SqL X.K H p ys/\∀l,H l=none->Q (.ref l) (upd H l (.tup ys)))\/(SqT X.K H p ys/\Q (.ref p) H))):=by
 intro pins s σ H xs us Q I r h;obtain⟨p,ys,rfl,h⟩:=h;obtain⟨u,rfl,rx⟩:=yq r;cases rx;rcases h with ⟨hq,q⟩ | ⟨hq,q⟩
 ·obtain⟨its,r',pl,hz⟩:=I.list hq;have hlen:=r'.length;refine call_tuple_list pl.isList (fun h' kp=>?_) (by simp only[List.size_toArray]<;>omega);have I1:Inv X pins σ H { s with heap:=h' }:=I.kept (t':=s.toks) kp;have I2:Inv X pins σ (upd H h'.objs.size (.tup ys)) { s with heap:=h'.push { cls:=.type "tuple",data:=.seq its.toArray } }:=
   I1.laid (t':=s.toks) (fun b o e=>Heap.get?_push_of_some _ e) (Nat.le_refl _) (show ObjOk X.prog X.w _ _ _ (.tup ys) from⟨⟨hz,_,Heap.get?_push_size _ rfl,rfl⟩,its,r',IsTup.new _ _⟩)
  exact⟨.ref h'.objs.size,_,I2,rfl,q _ (I1.hok.fresh (Nat.le_refl _))⟩
 ·obtain⟨its,r',pl,hz⟩:=I.tuple hq;exact call_tuple_same pl ⟨.ref p,H,I,rfl,q⟩
def tyV(K:W.Frag)(T:String)(x:V)(H:Hp):Prop:=match x with
 | .str _=>T="str"
 | .int _=>T="int"
 | .ref p=>(T="list"/\∃xs,SqL K H p xs)\/(T="tuple"/\((∃o,K.lookup p=some o/\o.cls=.type "tuple"/\o.dict=none)\/∃xs,H p=some (.tup xs)))\/
   (T="dict"/\((∃kvs,H p=some (.dK kvs))\/∃kvs,H p=some (.dT kvs)))\/(T="set"/\∃S n,H p=some (.set S n))
 | _=>False
theorem z7m{pins:List (Addr×Obj)}{σ:St}{H:Hp}{s:Shared}{T:String}{x:V}{v:Value}(I:Inv X pins σ H s)(r:RelV x v)(ty:tyV X.K T x H):
  s.TypeIs v T/\∀a,v=.ref a->∃ob,s.heap.get? a=some ob/\ob.dict=none:=by
 cases x with
 | str z=>
  obtain⟨t,rfl⟩:=r;cases(show T="str" from ty);exact⟨typeIs_str s z t,fun _ e=>nomatch e⟩
 | int i=>
  obtain⟨t,rfl⟩:=r;cases(show T="int" from ty);exact⟨typeIs_int s i t,fun _ e=>nomatch e⟩
 | ref p=>
  cases r;rcases ty with ⟨rfl,xs,hq⟩ | ⟨rfl,⟨o,hk,hc,hd⟩ | ⟨xs,hq⟩⟩ | ⟨rfl,hk⟩ | ⟨rfl,S,n,hk⟩
  ·obtain⟨its,_,pl,_⟩:=I.list hq;refine⟨pl.isList.typeIs,fun a e=>?_⟩;cases e;obtain⟨o,n,e,c,hd,_⟩:=pl;exact⟨o,e,hd⟩
  ·refine⟨⟨o,I.kIn p o hk,hc⟩,fun a e=>?_⟩;cases e;exact⟨o,I.kIn _ o hk,hd⟩
  ·obtain⟨⟨_,o2,e2,c2⟩,its,r,ob,e,c,_⟩:=(show ObjOk X.prog X.w H s.heap p (.tup xs) from I.hok p _ hq);refine⟨⟨ob,e,c⟩,fun a e3=>?_⟩;cases e3;exact⟨o2,e2,c2⟩
  ·have z:∃o,s.heap.get? p=some o/\o.ExactDict:=by
    rcases hk with ⟨kvs,hk⟩ | ⟨kvs,hk⟩
    ·obtain⟨_,_,_,_,o,_,_,e,ex,_⟩:=I.hok p _ hk;exact⟨o,e,ex⟩
    ·obtain⟨_,_,_,_,o,_,_,e,ex,_⟩:=I.hok p _ hk;exact⟨o,e,ex⟩
   obtain⟨o,e,ex⟩:=z;refine⟨⟨o,e,ex.1⟩,fun a e2=>?_⟩;cases e2;exact⟨o,e,ex.2.1⟩
  ·obtain⟨o,_,_,_,e,ex,_⟩:=I.hok p _ hk;refine⟨⟨o,e,ex.1⟩,fun a e2=>?_⟩;cases e2;exact⟨o,e,ex.2.1⟩
 | _=>exact False.elim ty
noncomputable def tBM(K:W.Frag)(T:String)(r:V->List V->Hp->VK->Prop)(to:TE)(t:TA):TE:=fun σ H Q=>to σ H fun x H1=>tyV K T x H1/\t σ H1 fun xs H2=>r x xs H2 Q
variable{o e:Expr}{es:List Expr}{to:TE}{t:TA}{name:Str}{apos cpos:Pos}{T id:String}{r:V->List V->Hp->VK->Prop}
theorem wF(pa:PlainAttrs T)(slot:Slot T name id)(hty:typeOf (.builtin id)=pure (.type "method_descriptor"))(hm:MtR X id r)(ho:PE X o to)(ha:PA X (e::es) t)
  (hbase:attributeBase o name X.env (eval o X.env)=eval o X.env:=by rfl)
  (hfew:((backTo cpos (starEach (e::es) X.env)).all (fun x=>!x.1) && (backToKw cpos (keywordEach [] X.env)).all (fun x=>x.1.isSome)
   && decide ((e::es).length+([]:List Keyword).length+(if ([]:List Keyword).isEmpty then 0 else 1)<30))=true:=by rfl)
  (hline:(apos.endLine == cpos.line)=true:=by rfl) (hs:starEach (e::es) X.env=(false,eval e X.env)::starEach es X.env:=by rfl) (hplain:(backTo cpos (starEach es X.env)).any (·.1)=false:=by rfl) :
  PE X (.Call (.Attribute o name apos) (e::es) [] cpos) (tBM X.K T r to t):=by
 intro pins s σ H Q I h;refine wpAny_Call_method_late hbase hfew hline rfl (thn (ho pins s σ H _ I h) fun v s1 ⟨x,H1,I1,r1,ty,q1⟩=>?_);obtain⟨h1,h2⟩:=z7m I1 r1 ty;refine⟨T,id,pa,slot,hty,h1,h2,?_⟩;have hA:=ha cpos pins s1 σ H1 _ I1 q1;rw[hs]at hA |-;refine Calls.callWith_builtin (by show(false || (backTo cpos (starEach es X.env)).any (·.1))=false;rw[hplain]<;>rfl) (Calls.evalArgs_plain ?_);exact thn hA fun us s2 ⟨vs,H2,I2,r2,q2⟩=>hm pins s2 σ H2 x vs v us Q I2 r1 r2 q2
end
def MtM(X:Cx)(id:String)(r:V->List V->Hp->VK->Prop):Prop:=
 ∀(pins:List (Addr×Obj)) (s:Shared) (σ:St) (H:Hp) (x:V) (xs:List V) (v:Value) (us:List Value) (Q:VK),Inv X pins σ H s->RelV x v->Vals xs us->r x xs H Q->
  wpAny (model X.prog X.w) X.A (call (.builtin id) (v::us)) (EP X pins σ Q) X.xe s
theorem Vals.one:∀{x:V} {us:List Value},Vals [x] us->∃u,us=[u]/\RelV x u
 | _,_,.cons r .nil=>⟨_,rfl,r⟩
theorem Vals.eraseIdx:∀{xs:List V} {us:List Value} (i:Nat),Vals xs us->Vals (xs.eraseIdx i) (us.eraseIdx i)
 | _,_,_,.nil=>.nil
 | _,_,0,.cons _ t=>t
 | _,_,i+1,.cons r t=>.cons r (Vals.eraseIdx i t)
theorem Vals.rep{xs:List V}{us:List Value}(h:Vals xs us):∀k:Nat,Vals (List.replicate k xs).flatten (List.replicate k us).flatten
 | 0=>.nil
 | k+1=>by
  rw[List.replicate_succ,List.replicate_succ,List.flatten_cons,List.flatten_cons];exact Vals.append h (Vals.rep h k)
theorem z0e{α:Type}:∀(l:List α) (i:Nat),(l.eraseIdx i).length<=l.length
 | [],_=>Nat.le_refl _
 | _::_,0=>Nat.le_succ _
 | _::r,i+1=>Nat.succ_le_succ (z0e r i)
theorem uO(its:List Value):∀(k:Nat) (acc:List Value),
  List.foldl (fun x1 x2=>x1++x2) acc.toArray (List.replicate k its.toArray)=(acc++(List.replicate k its).flatten).toArray
 | 0,acc=>by simp
 | k+1,acc=>by
  have e:acc.toArray++its.toArray=(acc++its).toArray:=by simp
  have e2:(acc++its)++(List.replicate k its).flatten=acc++(List.replicate (k+1) its).flatten:=by
   rw[List.replicate_succ,List.flatten_cons,List.append_assoc]
  rw[<-e2,<-uO its k (acc++its),<-e,List.replicate_succ,List.foldl_cons]
section
variable{X:Cx}{pins:List (Addr×Obj)}{σ:St}{H:Hp}{s:Shared}{l b:Addr}{xs ys zs:List V}
theorem Inv.lset{its its':List Value}{n:Nat}{f:Array Value->Array Value}{t':Nat}(I:Inv X pins σ H s)(hH:H l=some (.lst xs))
  (e:s.heap.get? l=some { cls:=.type "list",data:=.seq its.toArray n }) (hf:f its.toArray=its'.toArray) (hv:Vals ys its') (hz:ys.length<=sizeLine) :
  Inv X pins σ (upd H l (.lst ys)) { s with heap:=s.heap.update l (Obj.mapSeq f),toks:=t' }:=by
 have q:=PySem.IsL.update e f;rw[hf]at q;refine I.write (x:=l) (e:=l) (by rw[hH];exact trivial) (.inl rfl) (fun b' u hb hu=>(Heap.get?_update_other s.heap (Obj.mapSeq f) (Ne.symm hb)).trans hu) ⟨_,q⟩ ?_;exact⟨hz,its',_,hv,q⟩
theorem Inv.lnew{its:List Value}{t':Nat}(I:Inv X pins σ H s)(hv:Vals ys its)(hz:ys.length<=sizeLine):
  Inv X pins σ (upd H s.heap.objs.size (.lst ys)) { s with heap:=s.heap.push { cls:=.type "list",data:=.seq its.toArray },toks:=t' }:=
 I.laid (fun _ _ q=>Heap.get?_push_of_some _ q) (Nat.le_refl _) ⟨hz,its,0,hv,Heap.get?_push_size _ rfl⟩
theorem Inv.fresh(I:Inv X pins σ H s):H s.heap.objs.size=none:=I.hok.fresh (Nat.le_refl _)
theorem Inv.lstM(I:Inv X pins σ H s)(hH:H l=some (.lst xs)):xs.length<=sizeLine/\∃(its:List Value) (n:Nat),Vals xs its/\xs.length=its.length/\s.heap.get? l=some { cls:=.type "list",data:=.seq its.toArray n }:=by
 obtain⟨z,its,n,r,e⟩:=I.hok l _ hH;exact⟨z,its,n,r,r.length,e⟩
theorem z2J{n:Nat}(h:n<=sizeLine):Builtin.List.listTooLong n=false:=by
 unfold Builtin.List.listTooLong;exact decide_eq_false (by omega)
end
section
variable{X:Cx}
noncomputable def z0T:V->List V->Hp->VK->Prop:=fun x vs H Q=>∃l xs y,x=.ref l/\vs=[y]/\H l=some (.lst xs)/\xs.length<sizeLine/\Q .non (upd H l (.lst (xs++[y])))
theorem yz:MtM X "list.append" z0T:=by
 intro pins s σ H x vs v us Q I rx rv h;obtain⟨l,xs,y,rfl,rfl,hH,hz,q⟩:=h;cases rx;obtain⟨u,rfl,ru⟩:=rv.one;obtain⟨z,its,n,r,hl,e⟩:=I.lstM hH;refine call_meets F.slot_list_append ⟨_,e,rfl⟩ F.entry_list_append (F.args_list_append_2 _ _) (PySem.list_append l its.toArray n u (by rw[List.size_toArray];omega)) ⟨e,?_⟩;refine⟨.non,_,I.lset (its':=its++[u]) hH e (by simp) (r.append (.cons ru .nil)) ?_,rfl,q⟩;rw[List.length_append,List.length_singleton];omega
noncomputable def z4p:V->List V->Hp->VK->Prop:=fun x vs H Q=>∃l b xs zs,x=.ref l/\vs=[.ref b]/\H l=some (.lst xs)/\H b=some (.lst zs)/\xs.length+zs.length<=sizeLine/\Q .non (upd H l (.lst (xs++zs)))
theorem z1B:MtM X "list.extend" z4p:=by
 intro pins s σ H x vs v us Q I rx rv h;obtain⟨l,b,xs,zs,rfl,rfl,hH,hB,hz,q⟩:=h;cases rx;obtain⟨u,rfl,ru⟩:=rv.one;cases ru;obtain⟨z,its,n,r,hl,e⟩:=I.lstM hH;obtain⟨z2,its2,n2,r2,hl2,e2⟩:=I.lstM hB;have hsz:its.toArray.size+its2.toArray.size<=sizeLine:=by rw[List.size_toArray,List.size_toArray];omega
 have hlong:¬(!its.toArray.isEmpty && Builtin.List.listTooLong (its.toArray.size+its2.toArray.size))=true:=by
  rw[z2J hsz,Bool.and_false];exact Bool.false_ne_true
 refine call_meets F.slot_list_extend ⟨_,e,rfl⟩ F.entry_list_extend (F.args_list_extend_2 _ _)
  (AutoSeq1.list_extend_list_list_0 l its.toArray n b its2.toArray n2 hlong (by rw[List.size_toArray];omega) (by omega)) ⟨e,e2,?_⟩
 refine⟨.non,_,I.lset (its':=its++its2) hH e (by simp) (r.append r2) ?_,rfl,q⟩;rw[List.length_append];omega
noncomputable def z4H:V->List V->Hp->VK->Prop:=fun x vs H Q=>∃l xs i k y,x=.ref l/\vs=[.int i]/\H l=some (.lst xs) /\ -(2 ^ 63)<=i/\i<2 ^ 63/\seqIndex? i xs.length=some k/\xs[k]?=some y/\Q y (upd H l (.lst (xs.eraseIdx k)))
theorem z2N:MtM X "list.pop" z4H:=by
 intro pins s σ H x vs v us Q I rx rv h;obtain⟨l,xs,i,k,y,rfl,rfl,hH,h1,h2,hk,hy,q⟩:=h;cases rx;obtain⟨u,rfl,ru⟩:=rv.one;obtain⟨t,rfl⟩:=ru;obtain⟨z,its,n,r,hl,e⟩:=I.lstM hH;obtain⟨w,hw,rw'⟩:=r.get hy;refine call_meets F.slot_list_pop ⟨_,e,rfl⟩ F.entry_list_pop (F.args_list_pop_2 _ _)
  (MeetsSeq.list_pop_at l its.toArray n i t k w (fitsIndex_both h1 h2) (by rw[List.size_toArray,<-hl];exact hk) (by rw[<-Array.getElem?_toList];exact hw) (by rw[List.size_toArray];omega)) ⟨e,?_⟩
 refine⟨y,_,I.lset (its':=its.eraseIdx k) hH e ?_ (r.eraseIdx k) ?_,rw',q⟩
 ·show its.toArray.eraseIdxIfInBounds k=(its.eraseIdx k).toArray;rw[List.eraseIdxIfInBounds_toArray]
 ·have:=z0e xs k;omega
noncomputable def rCat:R2:=fun x y H Q=>∃l b xs zs,x=.ref l/\y=.ref b/\H l=some (.lst xs)/\H b=some (.lst zs)/\xs.length+zs.length<=sizeLine/\∀p,H p=none->Q (.ref p) (upd H p (.lst (xs++zs)))
theorem op_cat:OpR X (binaryOp .Add) rCat:=by
 intro pins s σ H x y v u Q I rx ry h;obtain⟨l,b,xs,zs,rfl,rfl,hH,hB,hz,q⟩:=h;cases rx;cases ry;obtain⟨z,its,n,r,hl,e⟩:=I.lstM hH;obtain⟨z2,its2,n2,r2,hl2,e2⟩:=I.lstM hB;refine PySem.P.add_list e e2 ?_ (by rw[List.size_toArray,List.size_toArray];omega);have ea:its.toArray++its2.toArray=(its++its2).toArray:=by simp
 rw[ea];exact⟨.ref _,_,I.lnew (t':=s.toks) (r.append r2) (by rw[List.length_append];omega),rfl,q _ I.fresh⟩
noncomputable def rRep:R2:=fun x y H Q=>∃l k xs,x=.ref l/\y=.int k/\H l=some (.lst xs) /\ -(2 ^ 63)<=k/\k<2 ^ 63/\xs.length*k.toNat<=sizeLine/\
 ∀p,H p=none->Q (.ref p) (upd H p (.lst (List.replicate k.toNat xs).flatten))
theorem z3y{α:Type}(xs:List α)(k:Nat):(List.replicate k xs).flatten.length=k*xs.length:=by
 induction k with
 | zero=>simp
 | succ k ih=>rw[List.replicate_succ,List.flatten_cons,List.length_append,ih,Nat.succ_mul,Nat.add_comm]
theorem z6I:OpR X (binaryOp .Mult) rRep:=by
 intro pins s σ H x y v u Q I rx ry h;obtain⟨l,k,xs,rfl,rfl,hH,h1,h2,hz,q⟩:=h;cases rx;obtain⟨t,rfl⟩:=ry;obtain⟨z,its,n,r,hl,e⟩:=I.lstM hH;have hlen:its.toArray.size*k.toNat<=sizeLine:=by rw[List.size_toArray,<-hl];exact hz
 have hcap:¬its.toArray.size*k.toNat>(2 ^ 63 - 1) / 8:=by
  have:(sizeLine:Nat)<=(2 ^ 63 - 1) / 8:=by decide
  omega
 have hfit:¬(!Builtin.List.listFitsIndex k)=true:=by
  rw[fitsIndex_both h1 h2];exact Bool.false_ne_true
 have hlong:¬Builtin.List.listTooLong (its.toArray.size*k.toNat)=true:=by
  rw[z2J hlen];exact Bool.false_ne_true
 have hnew:List.foldl (fun x1 x2=>x1++x2) #[] (List.replicate (if its.toArray.isEmpty=true then 0 else k.toNat) its.toArray)=(List.replicate k.toNat its).flatten.toArray:=by
  have f0:∀m:Nat,List.foldl (fun x1 x2=>x1++x2) #[] (List.replicate m its.toArray)=(List.replicate m its).flatten.toArray:=fun m=>by
   have:=uO its m [];rw[List.nil_append]at this;exact this
  rw[f0];cases its with
  | nil=>simp
  | cons a r'=>rw[if_neg (by simp)]
 refine wpAny_binaryOp_repeat_ref (T:="list") (U:="int") (by decide) ⟨_,e,rfl⟩ (fun s'=>typeIs_int s' k t) noFill_list_mul F.fills_int_mul F.slot_int_rmul repeat_list F.slot_int_index.lookup
  (call_meets F.slot_int_rmul (typeIs_int s k t) F.entry_int_rmul (F.args_int_rmul_2 _ _) (int___rmul___int_list k t l its.toArray n)
   ⟨e,rfl,⟨_,e,rfl⟩,call_meets F.slot_list_mul ⟨_,e,rfl⟩ F.entry_list_mul (F.args_list_mul_2 _ _) (AutoListH.list___mul___list_int_3 l its.toArray n k t hfit hcap hlong) ⟨e,?_⟩⟩)
 rw[hnew];exact⟨.ref _,_,I.lnew (t':=s.toks) (r.rep k.toNat) (by rw[z3y,Nat.mul_comm];exact hz),rfl,q _ I.fresh⟩
end
section
variable{prog:Program}{w:World}{A:Around}{E:Value->Shared->Prop}{s:Shared}
set_option maxRecDepth 100000 in
end
section
variable{X:Cx}
end
section
variable{κ:Type}[DecidableEq κ]
noncomputable def valV(kvs:List (κ×V))(k:κ):Option V:=(kvs.find? fun kv=>decide (kv.1=k)).map (·.2)
noncomputable def putK(kvs:List (κ×V))(k:κ)(v:V):List (κ×V):=
 if (kvs.any fun kv=>decide (kv.1=k))=true then kvs.map (fun kv=>if kv.1=k then(kv.1,v)else kv)else kvs++[(k,v)]
theorem wK{p:κ×V}{r:List (κ×V)}{k:κ}(e:p.1=k):valV (p::r) k=some p.2:=by simp[valV,List.find?_cons,e]
theorem wP{p:κ×V}{r:List (κ×V)}{k:κ}(e:¬p.1=k):valV (p::r) k=valV r k:=by simp[valV,List.find?_cons,e]
theorem z2K(k:κ):∀kvs:List (κ×V),(kvs.any fun kv=>decide (kv.1=k))=(valV kvs k).isSome
 | []=>rfl
 | p::r=>by
  rw[List.any_cons];by_cases e:p.1=k
  ·simp only[wK e,decide_eq_true e,Bool.true_or,Option.isSome_some]
  ·rw[wP e,decide_eq_false e,Bool.false_or];exact z2K k r
theorem ye(kvs:List (κ×V))(k:κ)(v:V):(putK kvs k v).length<=kvs.length+1:=by
 unfold putK;split
 ·rw[List.length_map];omega
 ·rw[List.length_append,List.length_cons,List.length_nil];omega
theorem RelO.isSome_eq{o:Option V}{u:Option Value}(r:RelO o u):o.isSome=u.isSome:=by
 cases o with
 | none=>cases u with
  | none=>rfl
  | some _=>exact(show False from r).elim
 | some _=>cases u with
  | none=>exact(show False from r).elim
  | some _=>rfl
theorem KV.val{kvs:List (κ×V)}{vs:List (κ×Value)}(r:KV kvs vs)(k:κ):RelO (valV kvs k) (valueAt vs k):=by
 unfold KV at r
 induction r with
 | nil=>exact True.intro
 | @cons p q ps qs h t ih=>
  obtain⟨h1,h2⟩:=h;by_cases e:p.1=k
  ·have e':q.1=k:=h1.symm.trans e;have b:valueAt (q::qs) k=some q.2:=by simp[valueAt,List.find?_cons,e']
   rw[wK e,b];exact h2
  ·have e':¬q.1=k:=fun z=>e (h1.trans z);have b:valueAt (q::qs) k=valueAt qs k:=by simp[valueAt,List.find?_cons,e']
   rw[wP e,b];exact ih
theorem KV.any{kvs:List (κ×V)}{vs:List (κ×Value)}(r:KV kvs vs)(k:κ):(kvs.any fun kv=>decide (kv.1=k))=vs.any fun kv=>decide (kv.1=k):=by
 unfold KV at r
 induction r with
 | nil=>rfl
 | cons h t ih=>rw[List.any_cons,List.any_cons,ih,h.1]
theorem KV.repl{kvs:List (κ×V)}{vs:List (κ×Value)}(r:KV kvs vs)(k:κ){y:V}{u:Value}(ry:RelV y u):
  KV (kvs.map fun kv=>if kv.1=k then(kv.1,y)else kv) (vs.map fun kv=>if kv.1=k then(kv.1,u)else kv):=by
 unfold KV at r |-
 induction r with
 | nil=>exact .nil
 | @cons p q ps qs h t ih=>
  rw[List.map_cons,List.map_cons];refine .cons ?_ ih;obtain⟨h1,h2⟩:=h;by_cases e:p.1=k
  ·rw[if_pos e,if_pos (h1.symm.trans e)];exact⟨h1,ry⟩
  ·rw[if_neg e,if_neg (fun z=>e (h1.trans z))];exact⟨h1,h2⟩
theorem KV.put{kvs:List (κ×V)}{vs:List (κ×Value)}(r:KV kvs vs)(k:κ){y:V}{u:Value}(ry:RelV y u):KV (putK kvs k y) (stored vs k u):=by
 unfold putK stored;rw[r.any k];by_cases e:(vs.any fun kv=>decide (kv.1=k))=true
 ·rw[if_pos e,if_pos e];exact r.repl k ry
 ·rw[if_neg e,if_neg e];exact Paired.snoc r ⟨rfl,ry⟩
theorem KV.length{kvs:List (κ×V)}{vs:List (κ×Value)}(r:KV kvs vs):kvs.length=vs.length:=Paired.length r
end
theorem z1q{P:Program}{w:World}{k:Key}{u:Value}(r:RelV (kV k) u):(zd P w).is k u=true:=by
 cases k with
 | inl i=>obtain⟨t,e⟩:=(show ∃t,u=Value.int i t from r);subst e;exact z1d P w i t
 | inr x=>obtain⟨t,e⟩:=(show ∃t,u=Value.str x t from r);subst e;exact z1U P w x t
theorem z0c{P:Program}{w:World}:∀{ks:List Key} {us:List Value},Vals (ks.map kV) us->ItemsAre (zd P w) ks us
 | [],_,r=>by rw[List.map_nil]at r;cases r;exact .nil
 | k::ks,_,r=>by
  rw[List.map_cons]at r;cases r with
  | cons h t=>exact .cons (z1q h) (z0c t)
noncomputable abbrev KT(H:Hp):List (List Key×V)->List (List Key×Addr×Value)->Prop:=Paired fun p q=>p.1=q.1/\H q.2.1=some (.tup (p.1.map kV))/\RelV p.2 q.2.2
theorem KT.val{H:Hp}{kvs:List (List Key×V)}{xs:List (List Key×Addr×Value)}(r:KT H kvs xs)(k:List Key):RelO (valV kvs k) ((atKey xs k).map (·.2)):=by
 induction r with
 | nil=>exact True.intro
 | @cons p q ps qs h t ih=>
  obtain⟨h1,_,h2⟩:=h;by_cases e:p.1=k
  ·have e':q.1=k:=h1.symm.trans e;have b:atKey (q::qs) k=some q.2:=by simp[atKey,List.find?_cons,e']
   rw[wK e,b];exact h2
  ·have e':¬q.1=k:=fun z=>e (h1.trans z);have b:atKey (q::qs) k=atKey qs k:=by simp[atKey,List.find?_cons,e']
   rw[wP e,b];exact ih
theorem KT.repl{H:Hp}{kvs:List (List Key×V)}{xs:List (List Key×Addr×Value)}(r:KT H kvs xs)(k:List Key){y:V}{u:Value}(ry:RelV y u):
  KT H (kvs.map fun kv=>if kv.1=k then(kv.1,y)else kv) (xs.map (putAt k u)):=by
 induction r with
 | nil=>exact .nil
 | @cons p q ps qs h t ih=>
  rw[List.map_cons,List.map_cons];refine .cons ?_ ih;obtain⟨h1,h2,h3⟩:=h;unfold putAt;by_cases e:p.1=k
  ·rw[if_pos e,if_pos (h1.symm.trans e)];exact⟨h1,h2,ry⟩
  ·rw[if_neg e,if_neg (fun z=>e (h1.trans z))];exact⟨h1,h2,h3⟩
theorem KT.put{H:Hp}{kvs:List (List Key×V)}{xs:List (List Key×Addr×Value)}(r:KT H kvs xs)(k:List Key){b:Addr}{y:V}{u:Value}(hb:H b=some (.tup (k.map kV)))(ry:RelV y u):
  KT H (putK kvs k y) (storedH xs k b u):=by
 have e:(kvs.any fun kv=>decide (kv.1=k))=(atKey xs k).isSome:=by
  rw[z2K,(r.val k).isSome_eq,Option.isSome_map]
 unfold putK storedH;rw[e];by_cases q:(atKey xs k).isSome=true
 ·rw[if_pos q,if_pos q];exact r.repl k ry
 ·rw[if_neg q,if_neg q];exact Paired.snoc r ⟨rfl,hb,ry⟩
theorem KT.keeps{H H':Hp}{kvs:List (List Key×V)}{xs:List (List Key×Addr×Value)}(r:KT H kvs xs)(ht:∀b ys,H b=some (.tup ys)->H' b=some (.tup ys)):KT H' kvs xs:=
 Paired.mapP r fun _ _ z=>⟨z.1,ht _ _ z.2.1,z.2.2⟩
section
variable{P:Program}{w:World}{H:Hp}{h:Heap}{a:Addr}
theorem z7d{u:HO}(ok:HOk P w H h)(e:Rd H a u):ObjOk P w H h a u:=e.ok ok
theorem z2i{kvs:List (Key×V)}(ok:HOk P w H h)(e:Rd H a (.dK kvs)):kvs.length<=sizeLine/\(a == sysModules)=false/\∃vs,KV kvs vs/\h.DictOf (zd P w) a vs:=
 show ObjOk P w H h a (.dK kvs) from z7d ok e
theorem z5h{kvs:List (Key×V)}(ok:HOk P w H h)(e:H a=some (.dK kvs)):kvs.length<=sizeLine/\(a == sysModules)=false/\∃vs,KV kvs vs/\h.DictOf (zd P w) a vs:=z2i ok (.inl e)
theorem wu{ks:List Key}(ok:HOk P w H h)(e:H a=some (.tup (ks.map kV))):(tupleKind (zd P w)).is h ks a:=by
 obtain⟨_,its,r,o,h1,h2,n,h3⟩:=(show ObjOk P w H h a (.tup (ks.map kV)) from ok a _ e);exact⟨o,its.toArray,n,h1,h2,h3,by simpa using z0c r⟩
theorem z2r{kvs:List (List Key×V)}(ok:HOk P w H h)(e:Rd H a (.dT kvs)):kvs.length<=sizeLine/\(a == sysModules)=false/\
  ∃xs,KT H kvs xs/\h.DictOfH (tupleKind (zd P w)) a xs:=by
 obtain⟨z,y,xs,r,o,es,ep,h1,h2,h3,h4,h5⟩:=(show ObjOk P w H h a (.dT kvs) from z7d ok e);refine⟨z,y,xs,r,o,es,ep,h1,h2,h3,h4,fun x hx=>?_,h5⟩;have all:∀{l:List (List Key×V)} {m:List (List Key×Addr×Value)},KT H l m->∀x∈m,(tupleKind (zd P w)).is h x.1 x.2.1:=by
  intro l m q
  induction q with
  | nil=>intro x hx;exact nomatch hx
  | @cons p q ps qs hq t ih=>
   intro x hx;rcases List.mem_cons.mp hx with e | hx
   ·subst e;exact wu ok (by rw[<-hq.1];exact hq.2.1)
   ·exact ih x hx
 exact all r x hx
theorem z6p{kvs:List (List Key×V)}(ok:HOk P w H h)(e:H a=some (.dT kvs)):kvs.length<=sizeLine/\(a == sysModules)=false/\
  ∃xs,KT H kvs xs/\h.DictOfH (tupleKind (zd P w)) a xs:=z2r ok (.inl e)
end
def DGet(H:Hp)(a:Addr)(y:V)(r:Option V):Prop:=
 (∃kvs k,Rd H a (.dK kvs)/\y=kV k/\r=valV kvs k)\/∃kvs k b,Rd H a (.dT kvs)/\y=.ref b/\H b=some (.tup (k.map kV))/\r=valV kvs k
def DPut(H:Hp)(a:Addr)(y v:V)(H':Hp):Prop:=
 (∃kvs k,H a=some (.dK kvs)/\y=kV k/\kvs.length<sizeLine/\H'=upd H a (.dK (putK kvs k v)))\/
 ∃kvs k b,H a=some (.dT kvs)/\y=.ref b/\H b=some (.tup (k.map kV))/\kvs.length<sizeLine/\H'=upd H a (.dT (putK kvs k v))
theorem DPut.k{H:Hp}{a:Addr}{kvs:List (Key×V)}{k:Key}{v:V}(e:H a=some (.dK kvs))(hl:kvs.length<sizeLine):DPut H a (kV k) v (upd H a (.dK (putK kvs k v))):=.inl ⟨kvs,k,e,rfl,hl,rfl⟩
theorem DPut.t{H:Hp}{a b:Addr}{kvs:List (List Key×V)}{k:List Key}{v:V}(e:H a=some (.dT kvs))(eb:H b=some (.tup (k.map kV)))(hl:kvs.length<sizeLine):
  DPut H a (.ref b) v (upd H a (.dT (putK kvs k v))):=.inr ⟨kvs,k,b,e,rfl,eb,hl,rfl⟩
section
variable{X:Cx}{pins:List (Addr×Obj)}{σ:St}{H:Hp}{s:Shared}{a:Addr}{y v:V}{u r:Value}{o:Option V}{A:Around}{E:Value->Shared->Prop}
theorem Inv.big(I:Inv X pins σ H s):sysModules<s.heap.objs.size:=by
 have h:mainGlobals<s.heap.objs.size:=(I.mod.glob.keeps I.bk).lt;exact Nat.lt_trans (by decide) h
theorem z4g{Q:Value->Shared->Prop}(hu:A.units+1<cLine)(I:Inv X pins σ H s)(g:DGet H a y (some v))(ry:RelV y u)(h:∀w' s',Inv X pins σ H s'->RelV v w'->Q w' s'):
  wpAny (model X.prog X.w) A (getItem (.ref a) u) Q E s:=by
 rcases g with ⟨kvs,k,e,ey,l⟩ | ⟨kvs,k,b,e,ey,eb,l⟩
 ·subst ey;obtain⟨z,hd,vs,rel,dd⟩:=z2i I.hok e;obtain⟨w',hw,rw'⟩:=RelO.some_of (v:=v) (o:=valueAt vs k) (by rw[l];exact rel.val k);exact wpAny_getItem_of (z1q ry) dd.mapOf hw (h w' _ (I.tok _) rw')
 ·subst ey;cases(show u=Value.ref b from ry);obtain⟨z,hd,xs,rel,dd⟩:=z2r I.hok e;obtain⟨w',hw,rw'⟩:=RelO.some_of (v:=v) (o:=(atKey xs k).map (·.2)) (by rw[l];exact rel.val k);obtain⟨p,hp,hp2⟩:=Option.map_eq_some_iff.mp hw;refine wpAny_getItem_heap (tupleKind_room_in1 hu) (wu I.hok eb) dd hp ?_;rw[hp2];exact h w' _ (I.tok _) rw'
theorem d_in{Q:Value->Shared->Prop}(hu:A.units+1<cLine)(I:Inv X pins σ H s)(g:DGet H a y o)(ry:RelV y u)(h:∀s',Inv X pins σ H s'->Q (.bool o.isSome) s'):
  wpAny (model X.prog X.w) A (compareOp .In u (.ref a)) Q E s:=by
 rcases g with ⟨kvs,k,e,ey,l⟩ | ⟨kvs,k,b,e,ey,eb,l⟩
 ·subst ey;obtain⟨z,hd,vs,rel,dd⟩:=z2i I.hok e;refine wpAny_in_of (z1q ry) hd dd.mapOf ?_;rw[<-(rel.val k).isSome_eq,<-l];exact h _ (I.tok _)
 ·subst ey;cases(show u=Value.ref b from ry);obtain⟨z,hd,xs,rel,dd⟩:=z2r I.hok e;refine wpAny_in_heap (tupleKind_room_in1 hu) (wu I.hok eb) hd dd ?_;have q:=(rel.val k).isSome_eq;rw[Option.isSome_map]at q;rw[<-q,<-l];exact h _ (I.tok _)
theorem z6b{Q:Value->Shared->Prop}(hu:A.units+1<cLine)(I:Inv X pins σ H s)(g:DGet H a y o)(ry:RelV y u)(h:∀s',Inv X pins σ H s'->Q (.bool (!o.isSome)) s'):
  wpAny (model X.prog X.w) A (compareOp .NotIn u (.ref a)) Q E s:=by
 rcases g with ⟨kvs,k,e,ey,l⟩ | ⟨kvs,k,b,e,ey,eb,l⟩
 ·subst ey;obtain⟨z,hd,vs,rel,dd⟩:=z2i I.hok e;refine wpAny_notIn_of (z1q ry) hd dd.mapOf ?_;rw[<-(rel.val k).isSome_eq,<-l];exact h _ (I.tok _)
 ·subst ey;cases(show u=Value.ref b from ry);obtain⟨z,hd,xs,rel,dd⟩:=z2r I.hok e;refine wpAny_notIn_heap (tupleKind_room_in1 hu) (wu I.hok eb) hd dd ?_;have q:=(rel.val k).isSome_eq;rw[Option.isSome_map]at q;rw[<-q,<-l];exact h _ (I.tok _)
theorem xx{h':Heap}{t':Nat}{ob:HO}(I:Inv X pins σ H s)(mu:Mut (H a))(hs:Heap.SameBut a s.heap h')(he:∃q,h'.get? a=some q)(new:ObjOk X.prog X.w (upd H a ob) h' a ob):
  Inv X pins σ (upd H a ob) { s with heap:=h',toks:=t' }:=
 I.write (x:=a) (e:=a) mu (.inl rfl) (fun b q hb z=>(hs.2 b hb).trans z) he new
theorem z4z{P:Program}{w:World}{H':Hp}{h':Heap}{kvs:List (Key×V)}{vs:List (Key×Value)}(z:kvs.length<=sizeLine)(hd:(a == sysModules)=false)(rel:KV kvs vs)(dd:h'.DictOf (zd P w) a vs):
  ObjOk P w H' h' a (.dK kvs):=⟨z,hd,vs,rel,dd⟩
theorem wt{H':Hp}{Q:Unit->Shared->Prop}(hu:A.units+1<cLine)(I:Inv X pins σ H s)(g:DPut H a y v H')(ry:RelV y u)(rv:RelV v r)(h:∀s',Inv X pins σ H' s'->Q () s'):
  wpAny (model X.prog X.w) A (setItem (.ref a) u r) Q E s:=by
 rcases g with ⟨kvs,k,e,ey,l,eH⟩ | ⟨kvs,k,b,e,ey,eb,l,eH⟩
 ·subst ey eH;obtain⟨z,hd,vs,rel,dd⟩:=z5h I.hok e;have hz:vs.length<=sizeLine:=by rw[<-rel.length];exact z
  have hl:(putK kvs k v).length<=sizeLine:=by have:=ye kvs k v;omega
  refine wpAny_setItem_pairs (hsz:=hz) (z1q ry) dd fun h' dd' hs=>h _ ?_;have he:∃q,h'.get? a=some q:=let⟨q,_,_,hq,_⟩:=dd';⟨q,hq⟩
  exact xx I (by rw[e];exact True.intro) hs he (z4z hl hd (rel.put k rv) dd')
 ·subst ey eH;cases(show u=Value.ref b from ry);obtain⟨z,hd,xs,rel,dd⟩:=z6p I.hok e;have hz:xs.length<=sizeLine:=by rw[<-Paired.length rel];exact z
  have hl:(putK kvs k v).length<=sizeLine:=by have:=ye kvs k v;omega
  refine wpAny_setItem_heap (hsz:=hz) (tupleKind_room_in1 hu) (wu I.hok eb) dd fun h' dd' hs=>h _ ?_;obtain⟨q,es,ep,hq,h2,h3,h4,_,h5⟩:=dd';refine xx I (by rw[e];exact True.intro) hs ⟨q,hq⟩ ⟨hl,hd,_,(rel.put k eb rv).keeps fun c ys ec=>?_,q,es,ep,hq,h2,h3,h4,h5⟩;rw[z9 (z4R ec e (fun z=>nomatch z))];exact ec
end
section
variable{X:Cx}{pins:List (Addr×Obj)}{σ:St}{H:Hp}{s:Shared}{a:Addr}{kvs:List (Key×V)}{k:Key}{u:Value}{A:Around}{E:Value->Shared->Prop}
end
theorem z1m{X:Cx}{pins:List (Addr×Obj)}{σ:St}{H:Hp}{s:Shared}{a:Addr}{y:V}{o:Option V}(I:Inv X pins σ H s)(g:DGet H a y o):s.TypeIs (.ref a) "dict":=by
 rcases g with ⟨kvs,k,e,_,_⟩ | ⟨kvs,k,b,e,_,_,_⟩
 ·obtain⟨_,_,vs,_,dd⟩:=z2i I.hok e;exact dd.typeIs
 ·obtain⟨_,_,xs,_,dd⟩:=z2r I.hok e;exact dd.typeIs
section
variable{X:Cx}{o i e value:Expr}{pos pos' tpos:Pos}{td ty tv:TE}
end
theorem z2I{P:Program}{w:World}{H:Hp}(h:Heap)(hb:sysModules<h.objs.size):ObjOk P w H (h.push { cls:=.type "dict",data:=.dict #[] }) h.objs.size (.dK []):=
 ⟨Nat.zero_le _,beq_eq_false_iff_ne.mpr (Ne.symm (Nat.ne_of_lt hb)),[],.nil,Heap.DictOf.new h⟩
section
variable{X:Cx}{pos:Pos}
end
section
variable{X:Cx}{pins:List (Addr×Obj)}{σ:St}{H:Hp}{s:Shared}{a:Addr}{y d:V}{u r:Value}{o:Option V}{A:Around}{E:Value->Shared->Prop}
end
section
variable{X:Cx}{o e f:Expr}{apos cpos:Pos}{td ty tx:TE}
end
section
variable{X:Cx}{pins:List (Addr×Obj)}{σ:St}{H:Hp}{s:Shared}{a:Addr}{kvs:List (Key×V)}{A:Around}{E:Value->Shared->Prop}
end
section
variable{X:Cx}{pins:List (Addr×Obj)}{σ:St}{H:Hp}{s:Shared}{a:Addr}{y:V}{u:Value}{A:Around}{E:Value->Shared->Prop}
end
end L2
namespace Att
open PySem PySem.W PySem.Calls PyProof.Rows
theorem uM{P:Params}{h:Heap}:∀(ns:List Int) (vs:List Value),WellAll P h vs (ns.map WData.int)->IntsAre vs ns:=by
 intro ns
 induction ns with
 | nil=>
  intro vs w;rw[List.map_nil]at w;cases w;exact .nil
 | cons n ns ih=>
  intro vs w;rw[List.map_cons]at w;cases w with
  | cons a b=>
   cases a;exact .cons _ _ (ih _ b)
theorem z3Q{l:OpenLaw}{n:Nat}(hn:l.most=some n){P:Params}{h:Heap}{args:List WData}{vals:List Value}
  (hpre:l.row.toRowW.claim.pre args=true) (hwl:WellAll P h vals args) :
  ∃a vs ns,vals=[Value.ref a]/\args=[WData.list (ns.map WData.int)]/\h.get? a=some { cls:=.type "list",data:=.seq vs.toArray }/\IntsAre vs ns/\ns.length<=n:=by
 have hsh:WShape.hasAll [] args [.list .int]=true:=(pre_splitW hpre).1;have hc:l.pre.holds [] { args:=args }=true:=(pre_splitW hpre).2;obtain⟨d,r,rfl,h1,h2⟩:=hasAllW_cons hsh;obtain rfl:=hasAllW_nil h2;obtain⟨xs,rfl,h3⟩:=hasW_list h1;obtain⟨ns,rfl⟩:=items_int h3;have hlen:ns.length<=n:=by
  unfold OpenLaw.pre at hc;have h4:(WTm.not (.lt (.lit (.int (n:Int))) (.len (.arg 0)))).holds [] { args:=[.list (ns.map .int)] }=true:=by
   have h4:=(holds_andW hc).1;rw[hn]at h4;exact h4
  have h5:=condW_of h4 (w_not (w_lt w_lit (w_len_list (w_arg rfl))));rw[List.length_map]at h5;refine Nat.le_of_not_lt fun q=>?_;have q':(n:Int)<((ns.length:Nat):Int):=by omega
  first
   | (rw[decide_eq_true q']at h5;exact absurd h5 (by decide))
   | (simp at h5;omega)
 cases hwl with
 | cons w1 w2=>
  cases w2;cases w1 with
  | list ho hall=>exact⟨_,_,ns,rfl,rfl,ho,uM ns _ hall,hlen⟩
theorem z3o(l:OpenLaw)(args:List WData):l.row.toRowW.claim.post args (.bool true) args=true:=
 postW_of (r:=l.row.toRowW) (X:=(true == true))
  (show WShape.has [] (.bool true) .bool=true by first | rfl | decide | simp[WShape.has,WShape.arms,WShape.armsAll])
  (show(WTm.eq .res (.lit (.bool true))).value [] { args:=args,res:=some (.bool true),after:=args }=some (.bool (true == true)) from w_eq_bool (w_res rfl) w_lit) rfl
theorem attach_call{l:OpenLaw}{n:Nat}{q:Program}{loose:List Str}{XP:(Str->Option Value)->Heap->Prop}{YP:World->Heap->Prop}{d:DefRec}
  (hn:l.most=some n) (hdf:d.params.defaults=[])
  (call:∀(w:World) (s₀ s₁:Shared) (mg mb:Str->Option Value) (fa:Addr) (o:Obj) (pm cd doc:Value) (a:Addr) (vs:List Value) (ns:List Int),
   Ground q loose [] XP w s₀ mg mb s₁.heap->YP w s₁.heap->
   s₁.heap.get? fa=some o->o.data=.func (docDef d.name d.params d.body d.scope pm cd doc)->s₁.heap.CodeRec cd d.name->mg d.name=some (.ref fa)->
   s₁.heap.get? a=some { cls:=.type "list",data:=.seq vs.toArray }->IntsAre vs ns->ns.length<=n->s₁.gens=#[]->
   codeAny (model l.prog w) callerA (.call (.ref fa) ⟨[.ref a],[]⟩) (fun r s'=>r=.ok (.ret (.bool true))/\OldK s₁.heap s'.heap/\s'.os=s₁.os/\AllBare s'.gens) s₁) :
  WalkO q loose XP YP l.row.toRowW d [] (fun f vs=>PySem.call f vs):=by
 intro w s₀ s₁ mg mb G Y fa o pm cd doc dV kV ho hd hcd hD hmg hg args vals as hpre hlay hrd hwl hlo;obtain rfl:dV=.none:=Dflts.none hD hdf;obtain rfl:kV=.none:=Dflts.noKw hD;obtain⟨a,vs,ns,rfl,rfl,hobj,hints,hlen⟩:=z3Q hn hpre hwl;refine enter_call (codeAny_mono (call w s₀ s₁ mg mb fa o pm cd doc a vs ns G Y ho (fd_plain hd) hcd hmg hobj hints hlen hg) fun r s' hq=>?_);obtain⟨rfl,h2,h3,h4⟩:=hq;exact⟨.inl ⟨.bool true,.bool true,[],rfl,fun _=>rfl,.bool true,z3o l _,fun _=>⟨List.Pairwise.nil,fun _ hm=>(nomatch hm)⟩⟩,h2,h3,h4⟩
section
variable{prog:Program}{w:World}{A:Around}{E:Value->Shared->Prop}{s:Shared}{K:Frag}
noncomputable def z9B(h:Heap)(L d:Addr):List (Addr×Obj):=(List.range h.objs.size).filterMap fun a=>if a=L\/a=d then none else(h.get? a).map fun o=>(a,o)
end
end Att
namespace L2
open PySem PySem.Spec PyProof.Rows
theorem z1N:∀{vs:List Value} {ns:List Int},IntsAre vs ns->Vals (ns.map V.int) vs
 | _,_,.nil=>.nil
 | _,_,.cons n t h=>.cons ⟨t,rfl⟩ (z1N h)
def Only(H:Hp):Prop:=∀b,H b=none\/∃o xs,H b=some (.frz o (.lst xs))
theorem z5p{P:Program}{w:World}{K:W.Frag}{mg mb:Str->Option Value}{CX:CXT}{k:Nat}{fa a:Addr}{fd:FuncData}{x:Str}{sp:Sp}{s₁:Shared}{vs:List Value}{ns:List Int}
  (KX:K.In s₁.heap) (hns:s₁.heap.Ns mainGlobals mg) (hb:s₁.heap.Ns builtinsNs mb) (hbb:∀x:Str,x≠"__name__"->mb x=bootBuiltins x) (hlim:s₁.heap.NoLimit) (hg:s₁.gens=#[])
  (ha:s₁.heap.get? a=some { cls:=.type "list",data:=.seq vs.toArray }) (hi:IntsAre vs ns) (hl:ns.length<=sizeLine) (hr:Room k callerA)
  (F:∀base:Heap,K.In base->base.Ns mainGlobals mg->FnOk P w K mg base CX k fa fd [x] sp) (hbind:∀(s:Shared) (u:Value),BindsTo s fd ⟨[u],[]⟩ [(x,u)])
  (hsp:∀H:Hp,Only H->SqL K H a (ns.map V.int)->sp [.ref a] H (fun v _=>v=.bl true) fun _ _ _=>False)
  (hCX:∀H e s',CX [] H s₁ (fun _ _ _=>False) e s'->False) :
  codeAny (model P w) callerA (.call (.ref fa) ⟨[.ref a],[]⟩) (fun r s'=>r=.ok (.ret (.bool true))/\OldK s₁.heap s'.heap/\s'.os=s₁.os/\AllBare s'.gens) s₁:=by
 have rv:=z1N hi;have lenV:=hi.length;have core:∀H:Hp,Only H->SqL K H a (ns.map V.int)->HOk P w H s₁.heap->(∀b,H b≠none->b=a)->(H a≠none->K.lookup a=none)->
   codeAny (model P w) callerA (.call (.ref fa) ⟨[.ref a],[]⟩) (fun r s'=>r=.ok (.ret (.bool true))/\OldK s₁.heap s'.heap/\s'.os=s₁.os/\AllBare s'.gens) s₁:=by
  intro H hO hS hok hA hK;have base_of:∀{b:Addr} {o:Obj},s₁.heap.get? b=some o->H b=none->(hidT s₁.heap H).get? b=some o:=fun e n=>z5y e n;have noA:∀{b:Addr} {o:Obj} {es:Array DictEntry} {ep:Nat},s₁.heap.get? b=some o->o.data=.dict es ep->H b=none:=fun{b o es ep} e d=>by
   cases q:H b with
   | none=>rfl
   | some u=>
    have e':b=a:=hA b (by rw[q];simp);subst e';rw[ha]at e;cases e;have d':Data.seq vs.toArray _=Data.dict es ep:=d;cases d'
  have nsK:∀{b:Addr} {m:Str->Option Value},s₁.heap.Ns b m->(hidT s₁.heap H).Ns b m:=fun{b m} ⟨o,es,ep,e,d,r⟩=>⟨o,es,ep,base_of e (noA e d),d,r⟩;have hKb:K.In (hidT s₁.heap H):=fun b o e=>base_of (KX b o e) (by
   cases q:H b with
   | none=>rfl
   | some u=>
    have e':b=a:=hA b (by rw[q];simp);subst e';rw[hK (by rw[q];simp)]at e;cases e)
  have hM:Mod K mg (hidT s₁.heap H):=⟨hKb,nsK hns,⟨mb,nsK hb,hbb⟩,let⟨mc,h1,h2⟩:=hlim;⟨mc,nsK h1,h2⟩⟩;have e0:Env0 P w K mg (hidT s₁.heap H) callerA [] s₁ H:=⟨rfl,hM,fun b o e=>z6x e,Nat.le_of_eq (z3u _ _),trivial,fun b hb=>absurd (show b∈([]:List Addr) from hb) (by simp),hok,.of_eq hg⟩;refine codeAny_mono ((F _ hKb (nsK hns)).run callerA [] s₁ H ⟨[.ref a],[]⟩ [.ref a] [.ref a] _ _ hr e0 (hbind s₁ (.ref a)) (.cons rfl .nil) (hsp H hO hS)) fun r s' h=>?_;cases r with
  | error e=>exact(hCX H e s' h).elim
  | ok fl=>
   cases fl with
   | next=>exact False.elim h
   | brk=>exact False.elim h
   | cont=>exact False.elim h
   | ret u=>
    obtain⟨v,H',os,bare,un,hok',r',q⟩:=h;have q':v=.bl true:=q;subst q';obtain rfl:u=Value.bool true:=r';refine⟨rfl,OldK.of_keep fun b o e=>?_,os,bare⟩;cases q:H b with
    | none=>exact un.keep b o e q (by intro z;exact absurd (show b∈([]:List Addr) from z) (by simp)) (by simp)
    | some u=>
     rcases hO b with z | ⟨ob,xs,z⟩
     ·rw[q]at z;cases z
     ·have z2:=un.frzs b ob _ z;obtain⟨e1,_⟩:=hok b _ z;obtain⟨e2,_⟩:=hok' b _ z2;rw[e]at e1;cases e1;exact e2
 cases hk:K.lookup a with
 | some o=>
  have e:=KX a o hk;rw[ha]at e;cases e;refine core (fun _=>none) (fun _=>.inl rfl) (.inr ⟨_,vs.toArray,_,hk,rfl,rfl,rfl,by rw[List.size_toArray,lenV];exact hl,by simpa using rv⟩) (fun b u z=>by have z':(none:Option HO)=some u:=z;cases z') (fun b z=>absurd rfl z) fun z=>absurd rfl z
 | none=>
  refine core (fun b=>if b=a then some (.frz { cls:=.type "list",data:=.seq vs.toArray } (.lst (ns.map V.int)))else none) (fun b=>?_) (.inl (.inr ⟨{ cls:=.type "list",data:=.seq vs.toArray },if_pos rfl⟩)) (fun b u z=>?_) (fun b z=>?_) fun _=>hk
  ·by_cases hb:b=a
   ·exact .inr ⟨_,_,if_pos hb⟩
   ·exact .inl (if_neg hb)
  ·by_cases hb:b=a
   ·have z':=(if_pos hb).symm.trans z;cases z';subst hb;exact⟨ha,by rw[List.length_map];exact hl,vs,_,rv,ha⟩
   ·have z':=(if_neg hb).symm.trans z;cases z'
  ·by_cases hb:b=a
   ·exact hb
   ·exact absurd (if_neg hb) z
noncomputable abbrev KOf{K:W.Frag}{h:Heap}(_:K.In h):W.Frag:=K
theorem walk_of{l:W.OpenLaw}{n k:Nat}{q:Program}{loose:List Str}{XP:(Str->Option Value)->Heap->Prop}{YP:World->Heap->Prop}{d:DefRec}{K:Params->W.Frag}{CX:World->CXT}{sp:World->Sp}{x:Str}
  (hn:l.most=some n) (hn2:n<=sizeLine) (hdf:d.params.defaults=[]) (hr:Room k callerA)
  (hY:∀(w:World) (h:Heap),YP w h->(K w.params).In h)
  (F:∀(w:World) (mg:Str->Option Value) (fa:Addr) (h:Heap),(K w.params).In h->h.Ns mainGlobals mg->mg d.name=some (.ref fa)->
   ∃fd:FuncData,(∀(s:Shared) (u:Value),BindsTo s fd ⟨[u],[]⟩ [(x,u)])/\
    ∀base:Heap,(K w.params).In base->base.Ns mainGlobals mg->FnOk l.prog w (K w.params) mg base (CX w) k fa fd [x] (sp w))
  (hsp:∀(w:World) (H:Hp) (a:Addr) (ns:List Int),ns.length<=n->Only H->SqL (K w.params) H a (ns.map V.int)->sp w [.ref a] H (fun v _=>v=.bl true) fun _ _ _=>False)
  (hCX:∀(w:World) (H:Hp) (s:Shared) (e:Value) (s':Shared),CX w [] H s (fun _ _ _=>False) e s'->False) :
  W.WalkO q loose XP YP l.row.toRowW d [] (fun f vs=>PySem.call f vs):=by
 refine Att.attach_call hn hdf fun w s₀ s₁ mg mb fa o pm cd doc a vs ns G Y ho hd hcd hmg hobj hints hlen hg=>?_;have KX:=hY w _ Y;obtain⟨fd,hb,hF⟩:=F w mg fa _ KX G.T.g hmg;exact z5p KX G.T.g G.T.b G.T.builtins G.T.nolimit hg hobj hints (Nat.le_trans hlen hn2) hr hF hb (fun H hO hS=>hsp w H a ns hlen hO hS) fun H e s'=>hCX w H s₁ e s'
noncomputable def yX(s:Stmt):Arguments:=match s with
 | .FunctionDef _ a _ _ _ _ _ _ _ _=>a
 | _=>{ posonlyargs:=[],args:=[],vararg:=none,kwonlyargs:=[],kw_defaults:=[],kwarg:=none,defaults:=[] }
noncomputable def zy(s:Stmt):List Stmt:=match s with
 | .FunctionDef _ _ b _ _ _ _ _ _ _=>b
 | _=>[]
noncomputable def z5(s:Stmt):Scope:=match s with
 | .FunctionDef _ _ _ _ _ _ sc _ _ _=>sc
 | _=>{ kind:=.function,names:=[],isGenerator:=false,isCoroutine:=false }
noncomputable abbrev CX0:CXT:=fun _ _ _ _ _ _=>False
noncomputable abbrev E0:XK:=fun _ _ _=>False
theorem zP{X:Cx}:ub CX0 X E0:=fun _ _ _ _ _ _ _ h=>h.elim
structure Fun(K:W.Frag)(x qual:Str)(st:Stmt)(f:Addr)(fd:FuncData):Prop where
 ex:∃(oc:Value) (od:Option Addr) (kV doc pm:Value) (an:Option Addr) (cdv ct:Value) (osl:Array (Option Value)),
  fd=W.fnOf x qual (yX st) (zy st) (z5 st) .none kV doc pm an cdv ct/\K.lookup f=some ⟨oc,od,.func fd,osl⟩/\W.codeIn K cdv qual=true
 kp:W.keepIn K (.ref f)=true
section
variable{P:Program}{w:World}{K:W.Frag}{mg:Str->Option Value}{base:Heap}
theorem Fun.ok{x qual:Str}{st:Stmt}{f:Addr}{fd:FuncData}{N ps:List Str}{k:Nat}{sp:Sp}(F:Fun K x qual st f fd)(S:FnScope N ps (z5 st))(len:∀vs H Q E,sp vs H Q E->vs.length=ps.length)
  (hbody:∀(cdv:Value) (A:Around) (outer:List Env) (s:Shared) (H:Hp) (vs:List V) (Q:VK) (E:XK),Room k (A.deeper (envOfC qual (z5 st) s.heap.objs.size f cdv))->sp vs H Q E->
   ∃t,PSs (cxOf CX0 P w K mg base N qual (z5 st) f cdv A outer s H E).nox (zy st) t/\t { nx:=fun _ H'=>Q .non H',rt:=Q } (start N vs) H):FnOk P w K mg base CX0 (k+1) f fd ps sp:=by
 obtain⟨oc,od,kV,doc,pm,an,cdv,ct,osl,rfl,lk,hcd⟩:=F.ex;refine z8a lk hcd S len fun A outer s H vs Q E hr hsp=>?_;obtain⟨t,h,q⟩:=hbody cdv A outer s H vs Q E hr hsp;exact⟨t,h.nox,q⟩
theorem Fun.binds{x qual:Str}{st:Stmt}{f:Addr}{fd:FuncData}{ps:List Str}(F:Fun K x qual st f fd)
  (h:∀(kV doc pm:Value) (an:Option Addr) (cdv ct:Value) (us:List Value),us.length=ps.length->bindArgs (W.fnOf x qual (yX st) (zy st) (z5 st) .none kV doc pm an cdv ct) ⟨us,[]⟩=pure (ps.zip us)):Binds K fd ps []:=by
 obtain⟨oc,od,kV,doc,pm,an,cdv,ct,osl,rfl,lk,hcd⟩:=F.ex;exact .all (h kV doc pm an cdv ct)
theorem z7y{x qual:Str}{st:Stmt}{f:Addr}{oc:Value}{od an:Option Addr}{osl:Array (Option Value)}{kV doc pm cdv ct:Value}(l:K.lookup f=some ⟨oc,od,.func (W.fnOf x qual (yX st) (zy st) (z5 st) .none kV doc pm an cdv ct),osl⟩)
  (c:W.codeIn K cdv qual=true) (k:W.keepIn K (.ref f)=true):Fun K x qual st f (W.fnOf x qual (yX st) (zy st) (z5 st) .none kV doc pm an cdv ct):=⟨⟨oc,od,kV,doc,pm,an,cdv,ct,osl,rfl,l,c⟩,k⟩
end
theorem y0{A:Around}{k:Nat}(hr:Room k A):A.units+1<cLine:=Nat.lt_of_le_of_lt (Nat.add_le_add_left (by decide:1<=64) _) hr.units
theorem z1H{n:Nat}(h:n<=1000):n<sizeLine:=Nat.lt_of_le_of_lt h (by decide)
section
variable{X:Cx}
theorem pv(i:Nat){x:Str}{pos:Pos}(hN:X.N[i]?=some x:=by rfl)(hv:Vis X.env.scope x:=by first | exact Or.inl rfl | exact Or.inr (Or.inl rfl) | exact Or.inr (Or.inr rfl))(hd:(x == ("__debug__":Str))=false:=by decide)
  (hcd:(x == ("__classdict__":Str))=false:=by decide):PE X (.Name x pos) (tVar i):=z80 hN hv hd hcd
end
theorem iteT{A B:Prop}(h:A):if true=true then A else B:=by
 rw[if_pos rfl];exact h
theorem ite2{c A B:Prop}[Decidable c](h1:c->A)(h2:¬c->B):if c then A else B:=by
 by_cases h:c
 ·rw[if_pos h];exact h1 h
 ·rw[if_neg h];exact h2 h
def Same(H H':Hp):Prop:=∀b o,H b=some o->H' b=some o
theorem Same.refl(H:Hp):Same H H:=fun _ _ h=>h
theorem Same.trans{H H1 H2:Hp}(a:Same H H1)(b:Same H1 H2):Same H H2:=fun c o h=>b c o (a c o h)
theorem Same.free{H H':Hp}(e:Same H H'){l:Addr}(h:H' l=Option.none):H l=Option.none:=by
 cases q:H l with
 | none=>rfl
 | some o=>
  rw[e l o q]at h;cases h
theorem Same.seq{K:W.Frag}{H H':Hp}{a:Addr}{xs:List V}(e:Same H H')(h:SqL K H a xs):SqL K H' a xs:=by
 rcases h with (h | ⟨o,h⟩) | h
 ·exact .inl (.inl (e _ _ h))
 ·exact .inl (.inr ⟨o,e _ _ h⟩)
 ·exact .inr h
section
variable{κ:Type}[DecidableEq κ]
theorem z3X:∀{l:List κ} {k:κ},l.Nodup->¬k∈l->(l++[k]).Nodup
 | [],k,_,_=>by simp
 | a::r,k,h,hk=>by
  obtain⟨h1,h2⟩:=List.nodup_cons.mp h;show(a::(r++[k])).Nodup;refine List.nodup_cons.mpr ⟨fun m=>?_,z3X h2 fun m=>hk (List.mem_cons.mpr (Or.inr m))⟩;rcases List.mem_append.mp m with q | q
  ·exact h1 q
  ·exact hk (List.mem_cons.mpr (Or.inl (List.mem_singleton.mp q).symm))
end
end L2
set_option maxHeartbeats 4000000
namespace L2
open PySem PySem.Spec PyProof.Rows
noncomputable def zx(cells:List (Str×Addr)):List (Str×NameKind)->List (Str×Addr)->List (Str×Addr)
 | [],acc=>acc
 | (n,k)::r,acc=>if k=.free then zx cells r ((n,(cells.lookup n).getD 0)::acc)else zx cells r acc
theorem z5J{scope:Scope}{env:Env}(h:∀n,(n,NameKind.free)∈scope.names->∃c,env.cells.lookup n=some c):
  closureFor scope env=pure (zx env.cells scope.names []):=by
 simp only[closureFor];generalize scope.names=l at h;generalize([]:List (Str×Addr))=acc
 induction l generalizing acc with
 | nil=>rfl
 | cons x r ih=>
  obtain⟨n,k⟩:=x;rw[List.forIn_cons];by_cases hk:k=.free
  ·subst hk;obtain⟨c,hc⟩:=h n List.mem_cons_self;have e:cellOf env n=pure c:=by unfold cellOf;rw[hc]
   simp only[beq_self_eq_true,if_true,e,pure_bind]
   have:=ih (fun m hm=>h m (List.mem_cons_of_mem _ hm)) ((n,c)::acc);unfold zx;rw[if_pos rfl,hc];exact this
  ·have hb:(k == NameKind.free)=false:=by simpa using hk
   simp only[hb,Bool.false_eq_true,if_false,pure_bind];unfold zx;rw[if_neg hk];exact ih (fun m hm=>h m (List.mem_cons_of_mem _ hm)) acc
theorem yH{cells:List (Str×Addr)}:∀{l:List (Str×NameKind)} {acc:List (Str×Addr)} {n:Str} {c:Addr},(n,c)∈zx cells l acc->(n,c)∈acc\/((n,NameKind.free)∈l/\c=(cells.lookup n).getD 0)
 | [],_,_,_,h=>.inl h
 | (m,k)::r,acc,n,c,h=>by
  unfold zx at h;split at h
  next hk=>
   rcases yH h with h | ⟨h,e⟩
   ·rcases List.mem_cons.mp h with e | h
    ·cases e;subst hk;exact .inr ⟨List.mem_cons_self,rfl⟩
    ·exact .inl h
   ·exact .inr ⟨List.mem_cons_of_mem _ h,e⟩
  next=>
   rcases yH h with h | ⟨h,e⟩
   ·exact .inl h
   ·exact .inr ⟨List.mem_cons_of_mem _ h,e⟩
theorem yQ{α:Type}:∀{l:List (Str×α)} {n:Str} {c:α},(n,c)∈l->∃c',l.lookup n=some c'
 | (k,v)::r,n,c,h=>by
  rw[List.lookup_cons];cases hb:n == k with
  | true=>exact⟨v,rfl⟩
  | false=>
   rcases List.mem_cons.mp h with e | h
   ·cases e;simp at hb
   ·exact yQ h
theorem xa{cells:List (Str×Addr)}:∀{l:List (Str×NameKind)} {acc:List (Str×Addr)} {n:Str},((n,NameKind.free)∈l\/∃c,(n,c)∈acc)->∃c,(n,c)∈zx cells l acc
 | [],_,_,h=>by
  rcases h with h | h
  ·exact nomatch h
  ·exact h
 | (m,k)::r,acc,n,h=>by
  unfold zx;split
  next hk=>
   refine xa ?_;rcases h with h | ⟨c,h⟩
   ·rcases List.mem_cons.mp h with e | h
    ·cases e;exact .inr ⟨_,List.mem_cons_self⟩
    ·exact .inl h
   ·exact .inr ⟨c,List.mem_cons_of_mem _ h⟩
  next hk=>
   refine xa ?_;rcases h with h | h
   ·rcases List.mem_cons.mp h with e | h
    ·cases e;exact absurd rfl hk
    ·exact .inl h
   ·exact .inr h
theorem zl:∀(l:List (Str×NameKind)) (n:Nat) (acc:List (Str×Addr)),cellsFrom n l acc=cellsFrom n l []++acc
 | [],_,_=>rfl
 | (m,k)::r,n,acc=>by
  unfold cellsFrom;split
  ·rw[zl r (n+1) ((m,n)::acc),zl r (n+1) [(m,n)],List.append_assoc];rfl
  ·exact zl r n acc
theorem yw:∀{l:List (Str×NameKind)} {n:Nat} {acc:List (Str×Addr)} {x:Str} {c:Addr},(x,c)∈cellsFrom n l acc->(x,c)∈acc\/((x,NameKind.cell)∈l/\n<=c)
 | [],_,_,_,_,h=>.inl h
 | (m,k)::r,n,acc,x,c,h=>by
  unfold cellsFrom at h;split at h
  next hk=>
   rcases yw h with h | ⟨h,e⟩
   ·rcases List.mem_cons.mp h with e | h
    ·cases e;rw[beq_iff_eq.mp hk];exact .inr ⟨List.mem_cons_self,Nat.le_refl _⟩
    ·exact .inl h
   ·exact .inr ⟨List.mem_cons_of_mem _ h,by omega⟩
  next=>
   rcases yw h with h | ⟨h,e⟩
   ·exact .inl h
   ·exact .inr ⟨List.mem_cons_of_mem _ h,e⟩
theorem zr{scope:Scope}{env:Env}{y:Str}:(relabel scope env).names.lookup y=(scope.names.lookup y).map fun k=>if (k == .free && env.scope.kind == .function && env.kindOf y == some .cell)=true then .cell else k:=by
 show(scope.names.map _).lookup y=_;generalize scope.names=l
 induction l with
 | nil=>rfl
 | cons x r ih=>
  obtain⟨n,k⟩:=x;rw[List.map_cons,List.lookup_cons];cases hb:y == n with
  | true=>
   have e:=beq_iff_eq.mp hb;subst e;by_cases hc:(k == NameKind.free && env.scope.kind == .function && env.kindOf y == some .cell)=true
   ·simp only[hc,if_true,List.lookup_cons,beq_self_eq_true,Option.map_some]
   ·simp only[hc,Bool.false_eq_true,if_false,List.lookup_cons,beq_self_eq_true,Option.map_some]
  | false=>
   by_cases hc:(k == NameKind.free && env.scope.kind == .function && env.kindOf n == some .cell)=true
   ·simp only[hc,if_true,List.lookup_cons,hb];exact ih
   ·simp only[hc,Bool.false_eq_true,if_false,List.lookup_cons,hb];exact ih
noncomputable def z24(N:List Str)(sc scope:Scope)(xs:List Str)(N':List Str):Bool:=
 scope.kind == .function && (N'.length == N.length+xs.length) && decide N'.Nodup && decide (N'.drop N.length=xs)
 && xs.all (fun x=>scope.names.lookup x == some .local || scope.names.lookup x == some .cell)
 && scope.names.all (fun p=>scope.names.lookup p.1 == some p.2)
 && scope.names.all (fun p=>!(p.2 == .free) || sc.names.lookup p.1 == some .cell || sc.names.lookup p.1 == some .free)
 && (List.range N.length).all fun i=>match N'[i]? with
  | none=>true
  | some y=>match scope.names.lookup y with
   | none=>true
   | some .free=>N[i]? == some y
   | some _=>false
noncomputable abbrev wf(N:List Str)(sc scope:Scope)(x:Str)(N':List Str):Bool:=z24 N sc scope [x] N'
structure CompOk(N:List Str)(sc scope:Scope)(xs:List Str)(N':List Str):Prop where
 kind:scope.kind=.function
 len:N'.length=N.length+xs.length
 nd:N'.Nodup
 here:N'.drop N.length=xs
 tgt:∀x∈xs,scope.names.lookup x=some .local\/scope.names.lookup x=some .cell
 uniq:∀p∈scope.names,scope.names.lookup p.1=some p.2
 cap:∀y,(y,NameKind.free)∈scope.names->sc.names.lookup y=some .cell\/sc.names.lookup y=some .free
 see:∀i y,i<N.length->N'[i]?=some y->scope.names.lookup y≠none->scope.names.lookup y=some .free/\N[i]?=some y
theorem CompOk.of{N:List Str}{sc scope:Scope}{xs:List Str}{N':List Str}(h:z24 N sc scope xs N'=true):CompOk N sc scope xs N':=by
 unfold z24 at h;simp only[Bool.and_eq_true,Bool.or_eq_true,beq_iff_eq,decide_eq_true_eq,List.all_eq_true]at h;obtain⟨⟨⟨⟨⟨⟨⟨h1,h2⟩,h3⟩,h4⟩,h5⟩,h6⟩,h7⟩,h8⟩:=h;refine⟨h1,h2,h3,h4,h5,h6,fun y hy=>?_,fun i y hi e hn=>?_⟩
 ·rcases h7 _ hy with (h | h) | h
  ·simp at h
  ·exact .inl h
  ·exact .inr h
 ·have q:=h8 i (List.mem_range.mpr hi);rw[e]at q;dsimp only at q;cases e2:scope.names.lookup y with
  | none=>exact absurd e2 hn
  | some k=>
   rw[e2]at q;cases k<;>first | exact(Bool.false_ne_true q).elim | exact⟨rfl,beq_iff_eq.mp q⟩
noncomputable def zJ(X:Cx)(scope:Scope)(C:Addr):List (Str×Addr):=cellsFrom (C+1) scope.names (zx X.env.cells scope.names [])
noncomputable def zO(X:Cx)(scope:Scope)(N':List Str)(C:Addr)(s:Shared)(H:Hp)(fp:List Addr):Cx:=
 { X with N:=N',s₀:=s,H₀:=H,env:=compEnvC scope (zJ X scope C) C X.env,outer:=X.stack,ex:=fp,fn:=fun y=>scope.names.lookup y == some .cell,pn:=[],xe:=fun _ _=>False }
section
variable{X:Cx}{pins:List (Addr×Obj)}{σ:St}{H:Hp}{s:Shared}{scope:Scope}{N':List Str}{x:Str}{xs:List Str}{fp:List Addr}
theorem zU(ok:X.Ok)(h:CompOk X.N X.env.scope scope xs N'){C:Nat}{y:Str}{c:Nat}(e:(y,c)∈zJ X scope C):
  (scope.names.lookup y=some .free/\X.env.cells.lookup y=some c)\/(scope.names.lookup y=some .cell/\C+1<=c):=by
 rcases yw e with z | ⟨z,l⟩
 ·rcases yH z with z | ⟨z,l⟩
  ·exact nomatch z
  ·obtain⟨c',e'⟩:=ok.has y (h.cap y z);rw[e']at l;exact .inl ⟨h.uniq _ z,by rw[e',l];rfl⟩
 ·exact .inr ⟨h.uniq _ z,l⟩
theorem xO(ok:X.Ok)(h:CompOk X.N X.env.scope scope xs N'){C:Addr}{y:Str}(e:scope.names.lookup y=some .free):∃c,(zJ X scope C).lookup y=some c/\X.env.cells.lookup y=some c:=by
 obtain⟨c,m⟩:=xa (cells:=X.env.cells) (l:=scope.names) (acc:=[]) (n:=y) (.inl (mem_of_lookup e));have m':(y,c)∈zJ X scope C:=by unfold zJ;rw[zl];exact List.mem_append_right _ m
 obtain⟨c',e'⟩:=yQ m';rcases zU ok h (mem_of_lookup e')with ⟨_,z⟩ | ⟨z,_⟩
 ·exact⟨c',e',z⟩
 ·rw[e]at z;cases z
theorem uX{C:Addr}{y:Str}(e:scope.names.lookup y=some .cell):∃c,(zJ X scope C).lookup y=some c:=Option.isSome_iff_exists.mp (W.cellsFrom_some _ _ _ (.inl e))
theorem wb(h:CompOk X.N X.env.scope scope xs N'){C:Addr}{y:Str}{k:NameKind}(e:(compEnvC scope (zJ X scope C) C X.env).kindOf y=some k):
  (scope.names.lookup y=some k/\k≠.free)\/(scope.names.lookup y=some .free/\(k=.cell\/k=.free)):=by
 have e':(relabel scope X.env).names.lookup y=some k:=e;rw[zr]at e';cases q:scope.names.lookup y with
 | none=>rw[q]at e';cases e'
 | some j=>
  rw[q]at e';have e2:=Option.some.inj e';dsimp only at e2;by_cases hj:j=.free
  ·subst hj
   right
   refine⟨rfl,?_⟩;split at e2
   ·exact .inl e2.symm
   ·exact .inr e2.symm
  ·left
   have hb:(j == NameKind.free)=false:=by simpa using hj
   rw[hb]at e2;simp only[Bool.false_and,Bool.false_eq_true,if_false]at e2;subst e2;exact⟨rfl,hj⟩
theorem z5l(I:Inv X pins σ H s)(h:CompOk X.N X.env.scope scope xs N')(hf:∀b∈fp,FpOk X pins H b)(hob:∀b∈fp,∃o,s.heap.get? b=some o){g:Heap}{C:Nat}{tk:Nat}(hC:s.heap.objs.size<=C)
  (hk:∀b o,s.heap.get? b=some o->g.get? b=some o) (hn:∃m,g.Ns C m) (hcell:∀n c,(n,c)∈cellsFrom (C+1) scope.names []->g.IsCell c none) (hap:(cellsFrom (C+1) scope.names []).Pairwise fun p q=>p.2≠q.2) :
  Inv (zO X scope N' C s H fp) [] (σ++List.replicate xs.length none) H { s with heap:=g,toks:=tk }:=by
 have ok:=I.ok;have old:∀y (c:Nat),X.env.cells.lookup y=some c->c<s.heap.objs.size:=fun y c e=>let⟨_,z⟩:=I.cell y c e;z.lt
 have sub:∀b,b∈frs X.stack->b∉fp:=fun b hb z=>by
  have f:=hf b z;rcases List.mem_cons.mp (I.stkSub b hb)with e | e
  ·exact f.2.1 e
  ·exact f.2.2.1 e
 refine⟨⟨ok.mod,h.kind,ok.glob,ok.blt,hC,fun y z c e1 e2=>?_,fun y hy=>?_,fun y c hfn e=>?_,ok.hd,ok.frames,.inl rfl,fun b hb=>⟨?_,fun y c e=>?_⟩,I.bs,Nat.le_trans ok.bsz I.sz,fun b o e z=>?_,fun b z hb=>sub b hb z,I.stack,I.stkFree⟩,
  rfl,I.bare,Un.kept hk,?_,fun y c e=>?_,I.hok.fresh hC,fun y c e=>?_,fun p hp=>(nomatch hp),I.hok.kept hk,?_⟩
 ·
  have m1:(y,c)∈zJ X scope C:=mem_of_lookup e1;have m2:(z,c)∈zJ X scope C:=mem_of_lookup e2;rcases zU ok h m1 with ⟨a1,b1⟩ | ⟨a1,b1⟩<;>rcases zU ok h m2 with ⟨a2,b2⟩ | ⟨a2,b2⟩
  ·exact ok.inj y z c b1 b2
  ·have:=old y c b1;omega
  ·have:=old z c b2;omega
  ·unfold zJ at m1 m2;rw[zl]at m1 m2;have new:∀{q:Str},(q,c)∈cellsFrom (C+1) scope.names []++zx X.env.cells scope.names []->scope.names.lookup q=some .cell->(q,c)∈cellsFrom (C+1) scope.names []:=fun{q} m a=>by
    rcases List.mem_append.mp m with m | m
    ·exact m
    ·rcases yH m with m | ⟨m,_⟩
     ·exact nomatch m
     ·rw[h.uniq _ m]at a;cases a
   exact name_of_addr hap (new m1 a1) (new m2 a2)
 ·have hy':(∃k,(compEnvC scope (zJ X scope C) C X.env).kindOf y=some k/\(k=.cell\/k=.free)):=hy.elim (fun e=>⟨_,e,.inl rfl⟩) fun e=>⟨_,e,.inr rfl⟩;obtain⟨k,e,hk'⟩:=hy';rcases wb h e with ⟨e1,e2⟩ | ⟨e1,_⟩
  ·rcases hk' with rfl | rfl
   ·exact uX e1
   ·exact absurd rfl e2
  ·obtain⟨c,e3,_⟩:=xO (C:=C) ok h e1;exact⟨c,e3⟩
 ·have hfn':scope.names.lookup y=some .cell:=beq_iff_eq.mp hfn;rcases zU ok h (mem_of_lookup (show(zJ X scope C).lookup y=some c from e))with ⟨a,_⟩ | ⟨_,b⟩
  ·rw[hfn']at a;cases a
  ·show s.heap.objs.size<=c;omega
 ·obtain⟨o,e⟩:=hob b hb;exact Nat.ne_of_lt (Nat.lt_of_lt_of_le (Heap.lt_size e) hC)
 ·obtain⟨o,eo⟩:=hob b hb;rcases zU ok h (mem_of_lookup (show(zJ X scope C).lookup y=some c from e))with ⟨_,q⟩ | ⟨_,q⟩
  ·exact(hf b hb).2.2.2.2.1 y c q
  ·exact Nat.ne_of_gt (Nat.lt_of_lt_of_le (Heap.lt_size eo) (Nat.le_trans hC (Nat.le_trans (Nat.le_succ _) q)))
 ·rcases(hf b z).2.2.2.1 with q | q
  ·exact ok.noex b o e q
  ·have q1:=Heap.lt_size e;exact absurd (Nat.lt_of_lt_of_le q1 (Nat.le_trans ok.bsz q)) (Nat.lt_irrefl _)
 ·
  obtain⟨m,hm⟩:=hn;obtain⟨m0,hn0,hl0⟩:=I.loc;refine⟨m,hm,fun i y v e1 e2 e3=>?_⟩;have hi:i<σ.length:=by
   by_cases hi:i<σ.length
   ·exact hi
   ·rw[List.getElem?_append_right (by omega),List.getElem?_replicate]at e2;split at e2<;>cases e2
  rw[List.getElem?_append_left hi]at e2;have e3':scope.names.lookup y≠none:=by
   have:∃k,(compEnvC scope (zJ X scope C) C X.env).kindOf y=some k:=by
    rcases e3 with z | z | z
    ·exact⟨_,z⟩
    ·exact⟨_,z⟩
    ·exact⟨_,z⟩
   obtain⟨k,z⟩:=this;rcases wb h z with ⟨q,_⟩ | ⟨q,_⟩<;>(rw[q];simp)
  obtain⟨q1,q2⟩:=h.see i y (by rw[<-I.len];exact hi) e1 e3';have cap:=h.cap y (mem_of_lookup q1);have vis:Vis X.env.scope y:=cap.elim (fun z=>.inr (.inl z)) fun z=>.inr (.inr z);obtain⟨u,r,l⟩:=hl0 i y v q2 e2 vis;refine⟨u,r,.inr ?_⟩;obtain⟨c,z1,z2⟩:=xO (C:=C) ok h q1;have kd:∃k,(compEnvC scope (zJ X scope C) C X.env).kindOf y=some k:=by
   rcases e3 with z | z | z
   ·exact⟨_,z⟩
   ·exact⟨_,z⟩
   ·exact⟨_,z⟩
  obtain⟨k,kz⟩:=kd;rcases l with ⟨l1,_⟩ | ⟨_,c',l2,l3⟩
  ·have l1':X.env.scope.names.lookup y=some .local:=l1;rcases cap with z | z<;>(rw[l1']at z;cases z)
  ·rw[z2]at l2;cases l2;refine⟨?_,c,z1,l3.keeps hk⟩;rcases wb h kz with ⟨q,_⟩ | ⟨_,q⟩
   ·rw[q1]at q;cases q;exact .inr kz
   ·rcases q with rfl | rfl
    ·exact .inl kz
    ·exact .inr kz
 ·have m1:(y,c)∈zJ X scope C:=mem_of_lookup e;rcases zU ok h m1 with ⟨_,q⟩ | ⟨a,q⟩
  ·obtain⟨v,z⟩:=I.cell y c q;exact⟨v,z.keeps hk⟩
  ·unfold zJ at m1;rw[zl]at m1;rcases List.mem_append.mp m1 with m1 | m1
   ·exact⟨none,hcell y c m1⟩
   ·rcases yH m1 with m | ⟨m,_⟩
    ·exact nomatch m
    ·rw[h.uniq _ m]at a;cases a
 ·rcases zU ok h (mem_of_lookup (show(zJ X scope C).lookup y=some c from e))with ⟨_,q⟩ | ⟨_,q⟩
  ·exact I.freeC y c q
  ·exact I.hok.fresh (by omega)
 ·show(σ++List.replicate xs.length none).length=N'.length;rw[h.len,List.length_append,I.len,List.length_replicate]
noncomputable def tYes:TT:=fun _ H Q=>Q true H
def PF(X:Cx)(ifs:List Expr)(t:TT):Prop:=(ifs=[]/\t=tYes)\/∃c,ifs=[c]/\PT X c t
theorem yM:PF X [] tYes:=.inl ⟨rfl,rfl⟩
theorem z0g{c:Expr}{t:TT}(h:PT X c t):PF X [c] t:=.inr ⟨c,rfl,h⟩
structure CompW(J:It)(σ:St)(tc:TT)(te:TE)(n:Nat)(W:Nat->List V->Hp->Prop):Prop where
 small:n<=sizeLine
 stop:∀ys H,W n ys H->J.stop n H
 go:∀i ys H,i<n->W i ys H->J.go i H
 step:∀i ys H v H',i<n->W i ys H->J.yld i H v H'->tc (σ++[some v]) H' fun b H3=>if b=true then te (σ++[some v]) H3 fun y H4=>W (i+1) (ys++[y]) H4 else W (i+1) ys H3
structure CompWG(J:It)(σ:St)(g:TG)(m:Nat)(tc:TT)(te:TE)(n:Nat)(W:Nat->List V->Hp->Prop):Prop where
 small:n<=sizeLine
 stop:∀ys H,W n ys H->J.stop n H
 go:∀i ys H,i<n->W i ys H->J.go i H
 step:∀i ys H os v H',i<n->os.length=m->W i ys H->J.yld i H v H'->g v (σ++os) H' fun σ' H''=>∃os',os'.length=m/\σ'=σ++os'/\tc σ' H'' fun b H3=>if b=true then te σ' H3 fun y H4=>W (i+1) (ys++[y]) H4 else W (i+1) ys H3
theorem z7z{prog:Program}{w:World}{A:Around}{R:Result->Shared->Prop}{s:Shared}{elt target iter:Expr}{ifs:List Expr}{scope:Scope}{pos:Pos}{it acc:Value}{env:Env}(I:Nat->Shared->Prop)
  (turn:∀n s,I n s->wpAny (model prog w) A (pyNext it) (fun r s₁=>match r with
   | none=>R (.ok .next) s₁
   | some v=>wpAny (model prog w) A (letOwnedTupleGo target it v) (fun _ s₂'=>wpAny (model prog w) A (assign target env v) (fun _ s₂=>
     wpAny (model prog w) A (forIn ifs true fun c r=>if r=true then do let ok<-isTrue c env (eval c env);pure (ForInStep.yield ok)else pure (ForInStep.yield r)) (fun ok s₃=>
      if ok=true then wpAny (model prog w) A (eval elt env) (fun x s₄=>
       wpAny (model prog w) A (call (.builtin "list.append") [acc,x]) (fun _ s₅=>∃m,m<n/\I m s₅) (notedBy (model prog w) A env fun e s'=>R (.error e) s') s₄) (notedBy (model prog w) A env fun e s'=>R (.error e) s') s₃
      else ∃m,m<n/\I m s₃) (notedBy (model prog w) A env fun e s'=>R (.error e) s') s₂) (notedBy (model prog w) A env fun e s'=>R (.error e) s') s₂') (notedBy (model prog w) A env fun e s'=>R (.error e) s') s₁) (notedBy (model prog w) A env fun e s'=>R (.error e) s') s)
  (n:Nat) (h:I n s):codeAny (model prog w) A (.compLoop (.ListComp elt [⟨target,iter,ifs,0⟩] scope pos) 0 it acc env) R s:=by
 refine codeAny_loop rfl I (fun n s hI=>?_) n h;show wpAny _ A ((compTurn (.ListComp elt [⟨target,iter,ifs,0⟩] scope pos) 0 it acc env).onRaise (fun x=>do noteFrame x env;theTreesLotGoes x)) _ _ s;refine wpAny_noted ?_;rw[compTurn_list];refine wpAny_bind (wpAny_standAt (wpAny_bind (wpAny_mono (turn n s hI) (fun r s₁ h₁=>?_) fun _ _ h'=>h')));cases r with
 | none=>exact wpAny_pure h₁
 | some v=>
  refine wpAny_bind (wpAny_mono h₁ (fun _ _ h₁=>?_) fun _ _ h'=>h');refine wpAny_bind (wpAny_mono h₁ (fun _ s₂ h₂=>wpAny_bind (wpAny_mono h₂ (fun ok s₃ h₃=>?_) fun _ _ h'=>h')) fun _ _ h'=>h');cases ok with
  | false=>exact wpAny_pure ⟨rfl,h₃⟩
  | true=>
   exact wpAny_bind (wpAny_bind (wpAny_mono h₃ (fun x s₄ h₄=>wpAny_bind (wpAny_mono h₄ (fun _ s₅ h₅=>wpAny_pure (wpAny_pure ⟨rfl,h₅⟩)) fun _ _ h'=>h')) fun _ _ h'=>h'))
noncomputable abbrev zp(us:List Value)(n:Nat):Obj:={ cls:=.type "list",data:=.seq us.toArray n }
theorem z25(σ:St)(o:Option V)(v:V):(σ++[o]).set σ.length (some v)=σ++[some v]:=by
 rw[List.set_append_right _ _ (Nat.le_refl _),Nat.sub_self];rfl
theorem z09(I:Inv X pins σ H s)(hf:∀b∈fp,FpOk X pins H b){C D:Nat}{H':Hp}{s':Shared}{σ':St}{pl:List (Addr×Obj)}{ys:List V}{us:List Value}{k:Nat}{g:Heap}(hCs:s.heap.objs.size<=C)(hDs:s.heap.objs.size<=D)(hCD:D≠C)
  (J:Inv (zO X scope N' C s H fp) pl σ' H' s') (hD:s'.heap.get? D=some (zp us k)) (hDn:H' D=none) (r:Vals ys us) (hl:ys.length<=sizeLine) (hg:Heap.SameBut C s'.heap g) :
  Inv X pins σ (upd H' D (.lst ys)) { s' with heap:=g }:=by
 have hCn:H' C=none:=J.free;have un:Un (frs X.stack) fp H H' s.heap s'.heap:=J.base;have ne:∀b o,s.heap.get? b=some o->b≠C/\b≠D:=fun b o e=>⟨Nat.ne_of_lt (Nat.lt_of_lt_of_le (Heap.lt_size e) hCs),Nat.ne_of_lt (Nat.lt_of_lt_of_le (Heap.lt_size e) hDs)⟩;have keep:∀b o,b≠C->s'.heap.get? b=some o->g.get? b=some o:=fun b o hb e=>(hg.2 b hb).trans e;refine I.call' (s':={ s' with heap:=g }) (ch:=fp) J.os ⟨fun b o e n hb hx=>?_,fun b o e n hb hx=>?_,fun b o e n hx=>?_,fun b o e hx=>?_,fun b xs e=>?_,fun b o u e=>?_,fun b ps e=>?_⟩ (fun b o e=>?_) J.bare fun b hb=>?_
 ·exact keep b o (ne b o e).1 (un.keep b o e n hb hx)
 ·obtain⟨sl,q⟩:=un.slot b o e n hb hx;exact⟨sl,keep b _ (ne b o e).1 q⟩
 ·rw[z9 (ne b o e).2];exact un.free b o e n hx
 ·obtain⟨o',q⟩:=un.there b o e hx;exact⟨o',keep b o' (ne b o e).1 q⟩
 ·have q:=un.tups b xs e;rw[z9 (zL q hDn)];exact q
 ·have q:=un.frzs b o u e;rw[z9 (zL q hDn)];exact q
 ·obtain⟨more,q⟩:=un.tbls b ps e;exact⟨more,by rw[z9 (zL q hDn)];exact q⟩
 ·by_cases hb:b=D
  ·subst hb;rw[z6]at e;cases e;exact⟨hl,us,k,r,keep _ _ hCD hD⟩
  ·rw[z9 hb]at e;refine(J.hok b o e).stay (fun c v hc q=>keep c v ?_ q) (fun c q=>?_) fun c xs q=>?_
   ·rintro rfl;rcases hc with z | z
    ·rw[<-z,hCn]at e;cases e
    ·rw[hCn]at z;cases z
   ·rw[z9 (zL q hDn)];exact q
   ·rw[z9 (zL q hDn)];exact q
 ·have f:=hf b hb;exact⟨f.2.2.2.1,f.2.1,f.2.2.2.2.1,f.2.2.2.2.2⟩
theorem z0E{elt iter:Expr}{ifs:List Expr}{pos:Pos}{tg:Expr}{g:TG}{tc:TT}{te:TE}{J:It}{it:Addr}{tn:Nat->Heap->Prop}{n:Nat}{W:Nat->List V->Hp->Prop}{RR:Value->Addr->Result->Shared->Prop}{E:Value->Shared->Prop}
  (h:CompOk X.N X.env.scope scope xs N') (hc:X.calm=true) (he:∀C fp,PE (zO X scope N' C s H fp) elt te) (hi:∀C fp,PF (zO X scope N' C s H fp) ifs tc) (hg:∀C fp,PG (zO X scope N' C s H fp) tg g)
  (I:Inv X pins σ H s) (T:Turn X.prog X.w X.K tg J fp it tn) (st:tn 0 s.heap) (hf:∀b∈fp,FpOk X pins H b) (w0:W 0 [] H) (CW:CompWG J σ g xs.length tc te n W)
  (hR:∀(C D:Nat) s' H' ys us k pl,s.heap.objs.size<=C->s.heap.objs.size<=D->D≠C->Inv (zO X scope N' C s H fp) pl (σ++List.replicate xs.length none) H' s'->s'.heap.get? D=some (zp us k)->H' D=none->Vals ys us->ys.length<=sizeLine->W n ys H'->RR (.ref D) C (.ok .next) s') :
  wpAny (model X.prog X.w) X.A (newList []) (fun acc s₃=>wpAny (model X.prog X.w) X.A (newFunctionEnv scope X.env.globals (zx X.env.cells scope.names []) [] X.env.qual none .none (some X.env)) (fun cenv s₄=>
   codeAny (model X.prog X.w) X.A (.compStart (.ListComp elt [⟨tg,iter,ifs,0⟩] scope pos) 0 (.ref it) acc { cenv with scope:=relabel scope X.env }) (RR acc cenv.locals) s₄) E s₃) E s:=by
 have hob:∀b∈fp,∃o,s.heap.get? b=some o:=fun b hb=>let⟨o,e,_⟩:=T.obj 0 _ st b hb;⟨o,e⟩
 refine wpAny_newList (items:=[]) ?_ (Nat.zero_le _);simp only[newFunctionEnv,Option.isSome_some,if_true];refine wpAny_bind (wpAny_alloc ?_);refine wpAny_bind (wpAny_layCells _ (fun name kind cells=>by cases hkc:kind == NameKind.cell<;>simp[hkc]) _ _ _ _ ?_);simp only[List.forIn_nil,pure_bind];refine wpAny_pure ?_;generalize hD:s.heap.objs.size=D;generalize hg1:s.heap.push { cls:=.type "list",data:=.seq ([]:List Value).toArray }=g1;have z1:g1.objs.size=D+1:=by rw[<-hg1,Heap.size_push,hD]
 generalize hg2:g1.push { cls:=.type "dict",data:=.dict #[] }=g2;have z2:g2.objs.size=D+2:=by rw[<-hg2,Heap.size_push,z1]
 have ok2:=cellsFrom_ok scope.names g2 (D+2) [] ⟨fun _ _ hm=>(nomatch hm),List.Pairwise.nil⟩ (Nat.le_of_eq z2.symm);dsimp only;rw[z2]at ok2;have keep1:∀b o,s.heap.get? b=some o->g1.get? b=some o:=fun b o e=>by rw[<-hg1];exact Heap.get?_push_of_some _ e
 have keep2:∀b o,g1.get? b=some o->(pushCells g2 scope.names).get? b=some o:=fun b o e=>pushCells_keeps _ _ b o (by rw[<-hg2];exact Heap.get?_push_of_some _ e);have hDobj:(pushCells g2 scope.names).get? D=some (zp [] 0):=keep2 _ _ (by rw[<-hg1,<-hD];exact Heap.get?_push_size _ rfl);have hns:(pushCells g2 scope.names).Ns (D+1) fun _=>none:=by
  have q:=(Heap.Ns.new g1 (.type "dict")).keeps (h':=pushCells g2 scope.names) fun b o e=>pushCells_keeps _ _ b o (by rw[<-hg2];exact e);rw[z1]at q;exact q
 have sC:s.heap.objs.size<=D+1:=by omega
 have sD:s.heap.objs.size<=D:=by omega
 have I4:∀tk,Inv (zO X scope N' (D+1) s H fp) [] (σ++List.replicate xs.length none) H { s with heap:=pushCells g2 scope.names,toks:=tk }:=fun tk=>
  z5l I h hf hob sC (fun b o e=>keep2 b o (keep1 b o e)) ⟨_,hns⟩ (fun n c m=>(ok2.empty n c m).1) ok2.apart
 have hfp:∀{H':Hp} {pl:List (Addr×Obj)},(∀b∈fp,H' b=none)->(∀b∈fp,∀p∈pl,p.1≠b)->∀b∈fp,FpOk (zO X scope N' (D+1) s H fp) pl H' b:=fun{H' pl} hn hp b hb=>by
  have e:=(I4 0).ok.exf b hb;exact⟨hn b hb,e.1,(I4 0).ok.exfs b hb,.inl hb,e.2,fun p hpp=>hp b hb p hpp⟩
 have bD:∀b∈fp,D≠b:=fun b hb=>by
  obtain⟨o,e⟩:=hob b hb;have z:=Heap.lt_size e;rw[hD]at z;exact Nat.ne_of_gt z
 have cD:∀y c,(compEnvC scope (zJ X scope (D+1)) (D+1) X.env).cells.lookup y=some c->c≠D:=fun y c e z=>by
  obtain⟨v,q⟩:=(I4 0).cell y c e;obtain⟨o,q1,q2⟩:=q;rw[z]at q1
  have:some o=some (zp [] 0):=q1.symm.trans hDobj;cases this;cases q2
 have pinD:∀{pl:List (Addr×Obj)} {σ':St} {H':Hp} {s':Shared} {us:List Value} {k:Nat},Inv (zO X scope N' (D+1) s H fp) pl σ' H' s'->s'.heap.get? D=some (zp us k)->H' D=none->Inv (zO X scope N' (D+1) s H fp) [(D,zp us k)] σ' H' s':=fun{pl σ' H' s' us k} J e n=>
  J.pins_of fun p hp=>by
   have hp':p=(D,zp us k):=by simpa using hp
   subst hp';refine⟨e,n,by show D≠D+1;omega,fun z=>?_,fun v z=>by cases z⟩;obtain⟨_,o,q,_⟩:=(I4 0).ok.funs.mem z;have z':D<s.heap.objs.size:=Heap.lt_size q;rw[hD]at z';exact absurd z' (Nat.lt_irrefl _)
 have loop:∀tk,codeAny (model X.prog X.w) X.A (.compLoop (.ListComp elt [⟨tg,iter,ifs,0⟩] scope pos) 0 (.ref it) (.ref D) (compEnvC scope (zJ X scope (D+1)) (D+1) X.env)) (RR (.ref D) (D+1)) { s with heap:=pushCells g2 scope.names,toks:=tk }:=by
  intro tk;refine z7z (fun m s'=>∃i ys us k H' o,List.length o=xs.length/\m=n - i/\i<=n/\ys.length<=i/\Inv (zO X scope N' (D+1) s H fp) [(D,zp us k)] (σ++o) H' s'/\Vals ys us/\tn i s'.heap/\(∀b∈fp,H' b=none)/\W i ys H') ?_ n
   ⟨0,[],[],0,H,List.replicate xs.length none,List.length_replicate,rfl,Nat.zero_le _,Nat.le_refl _,pinD (I4 tk) hDobj (I.hok.fresh sD),.nil,T.keep 0 _ _ st fun b hb o e=>keep2 b o (keep1 b o e),fun b hb=>(hf b hb).1,w0⟩
  rintro m s1 ⟨i,ys,us,k,H1,o,ho,rfl,hi',hl,I1,rv,st1,fr1,w1⟩;have hpl:∀b∈fp,∀p∈[(D,zp us k)],p.1≠b:=fun b hb p hp=>by
   have hp':p=(D,zp us k):=by simpa using hp
   subst hp';exact bD b hb
  by_cases hlt:i<n
  ·refine wpAny_mono (T.item (zO X scope N' (D+1) s H fp) rfl rfl rfl hc i _ s1 (σ++o) H1 _ I1 (hfp fr1 hpl) st1 (CW.go i ys H1 hlt w1)) (fun r s2 ⟨u,hr,h4⟩=>?_) fun _ _ e=>e;subst hr;dsimp only;have fin:∀(v:V) (H2:Hp) (s3:Shared),Inv (zO X scope N' (D+1) s H fp) [(D,zp us k)] (σ++o) H2 s3->RelV v u->J.yld i H1 v H2->tn (i+1) s3.heap->(∀b∈fp,H2 b=none)->
     ∀E',wpAny (model X.prog X.w) X.A (assign tg (compEnvC scope (zJ X scope (D+1)) (D+1) X.env) u) (fun _ s₂=>
      wpAny (model X.prog X.w) X.A (forIn ifs true fun c r=>if r=true then do let ok<-isTrue c (compEnvC scope (zJ X scope (D+1)) (D+1) X.env) (eval c (compEnvC scope (zJ X scope (D+1)) (D+1) X.env));pure (ForInStep.yield ok)else pure (ForInStep.yield r)) (fun okk s₃=>
       if okk=true then wpAny (model X.prog X.w) X.A (eval elt (compEnvC scope (zJ X scope (D+1)) (D+1) X.env)) (fun y s₄=>
        wpAny (model X.prog X.w) X.A (call (.builtin "list.append") [.ref D,y]) (fun _ s₅=>∃m,m<n - i/\∃i ys us k H' o,List.length o=xs.length/\m=n - i/\i<=n/\ys.length<=i/\Inv (zO X scope N' (D+1) s H fp) [(D,zp us k)] (σ++o) H' s₅/\Vals ys us/\tn i s₅.heap/\(∀b∈fp,H' b=none)/\W i ys H') E' s₄) E' s₃
       else ∃m,m<n - i/\∃i ys us k H' o,List.length o=xs.length/\m=n - i/\i<=n/\ys.length<=i/\Inv (zO X scope N' (D+1) s H fp) [(D,zp us k)] (σ++o) H' s₃/\Vals ys us/\tn i s₃.heap/\(∀b∈fp,H' b=none)/\W i ys H') E' s₂) E' s3:=by
    intro v H2 s3 I2 ru y2 st2 fr2 E';have I2':=I2.pinned (hfp fr2 hpl) (T.obj _ _ st2);refine wpAny_mono (hg (D+1) fp _ s3 _ H2 v u _ I2' ru (CW.step i ys H1 o v _ hlt ho w1 y2)) (fun _ s4 ⟨σ4,H4,I4',e4⟩=>?_) fun _ _ z=>z.elim;obtain⟨o4,ho4,rfl,stp⟩:=e4;have kp:∀{s5:Shared} {H5:Hp},Inv (zO X scope N' (D+1) s H fp) ([(D,zp us k)]++uY fp s3.heap) (σ++o4) H5 s5->(s5.heap.get? D=some (zp us k)/\H5 D=none)/\tn (i+1) s5.heap/\∀b∈fp,H5 b=none:=fun{s5 H5} J5=>by
     have pd:=J5.pin (D,zp us k) (List.mem_append_right _ (List.mem_append_left _ (by simp)));refine⟨⟨pd.1,pd.2.1⟩,T.keep _ _ _ st2 fun b hb ob e=>(J5.pin (b,ob) (List.mem_append_right _ (List.mem_append_right _ (xE hb e)))).1,fun b hb=>?_⟩;obtain⟨ob,e,_⟩:=T.obj _ _ st2 b hb;exact(J5.pin (b,ob) (List.mem_append_right _ (List.mem_append_right _ (xE hb e)))).2.1
    have aft:∀(b:Bool) (s5:Shared) (H5:Hp),Inv (zO X scope N' (D+1) s H fp) ([(D,zp us k)]++uY fp s3.heap) (σ++o4) H5 s5->(if b=true then te (σ++o4) H5 fun y H4=>W (i+1) (ys++[y]) H4 else W (i+1) ys H5)->
      (if b=true then wpAny (model X.prog X.w) X.A (eval elt (compEnvC scope (zJ X scope (D+1)) (D+1) X.env)) (fun y s₄=>
        wpAny (model X.prog X.w) X.A (call (.builtin "list.append") [.ref D,y]) (fun _ s₅=>∃m,m<n - i/\∃i ys us k H' o,List.length o=xs.length/\m=n - i/\i<=n/\ys.length<=i/\Inv (zO X scope N' (D+1) s H fp) [(D,zp us k)] (σ++o) H' s₅/\Vals ys us/\tn i s₅.heap/\(∀b∈fp,H' b=none)/\W i ys H') E' s₄) E' s5
       else ∃m,m<n - i/\∃i ys us k H' o,List.length o=xs.length/\m=n - i/\i<=n/\ys.length<=i/\Inv (zO X scope N' (D+1) s H fp) [(D,zp us k)] (σ++o) H' s5/\Vals ys us/\tn i s5.heap/\(∀b∈fp,H' b=none)/\W i ys H'):=by
     intro b s5 H5 I5 q5;cases b with
     | false=>
      rw[if_neg Bool.false_ne_true]at q5 |-;obtain⟨⟨d1,d2⟩,st5,fr5⟩:=kp I5;exact⟨n - (i+1),by omega,i+1,ys,us,k,H5,o4,ho4,rfl,hlt,by omega,pinD I5 d1 d2,rv,st5,fr5,q5⟩
     | true=>
      rw[if_pos rfl]at q5 |-;refine wpAny_mono (he (D+1) fp _ s5 _ H5 _ I5 q5) (fun y s6 ⟨w6,H6,I6,r6,q6⟩=>?_) fun _ _ z=>z.elim;obtain⟨⟨d1,d2⟩,st6,fr6⟩:=kp I6;refine append_at d1 (fun g' sb e'=>?_) (by rw[List.size_toArray,<-rv.length];exact Nat.le_trans hl (Nat.le_trans hi' CW.small));have e2:g'.get? D=some (zp (us++[y]) (k+1)):=by rw[e',List.push_toArray]
      have I7:Inv (zO X scope N' (D+1) s H fp) [] (σ++o4) H6 { s6 with heap:=g' }:=
       (I6.pins_of (pins':=[]) fun _ z=>nomatch z).turned (t':=s6.toks) (fun b ob hb e=>(sb.2 b hb).trans e) d2 (by show D≠D+1;omega) (.inr sD) cD fun p hp=>nomatch hp
      refine⟨n - (i+1),by omega,i+1,ys++[w6],us++[y],k+1,H6,o4,ho4,rfl,hlt,by rw[List.length_append];simp;omega,pinD I7 e2 d2,rv.append (.cons r6 .nil),T.keep _ _ _ st6 fun b hb ob e=>(sb.2 b (bD b hb).symm).trans e,fr6,q6⟩
    rcases hi (D+1) fp with ⟨rfl,rfl⟩ | ⟨c,rfl,pt⟩
    ·exact wpAny_tests_nil (aft true s4 _ I4' stp)
    ·exact wpAny_tests_one (wpAny_mono (pt _ s4 _ _ _ I4' stp) (fun b s5 ⟨H5,I5,q5⟩=>aft b s5 H5 I5 q5) fun _ _ z=>z.elim)
   exact wpAny_mono h4 (fun _ s3 ⟨v,H2,I2,ru,y2,st2,fr2⟩=>fin v H2 s3 I2 ru y2 st2 fr2 _) fun _ _ e=>e
  ·obtain rfl:i=n:=by omega
   refine wpAny_mono (T.done (zO X scope N' (D+1) s H fp) rfl rfl rfl hc i _ s1 (σ++o) H1 _ I1 (hfp fr1 hpl) st1 (CW.stop ys H1 w1)) (fun r s2 ⟨hr,I2⟩=>?_) fun _ _ e=>e;subst hr;have pd:=I2.pin (D,zp us k) (List.mem_append_right _ (by simp));refine hR (D+1) D s2 H1 ys us k _ sC sD (by omega) (I2.weak (σ':=σ++List.replicate xs.length none) (by simp[ho]) fun j v e=>?_) pd.1 pd.2.1 rv (Nat.le_trans hl CW.small) w1;by_cases hjl:j<σ.length
   ·rw[List.getElem?_append_left hjl]at e |-;exact e
   ·rw[List.getElem?_append_right (by omega),List.getElem?_replicate]at e;split at e<;>cases e
 have env_eq:∀l:Nat,l=D+1->({ scope:=relabel scope X.env,locals:=l,globals:=X.env.globals,cells:=cellsFrom (D+2) scope.names (zx X.env.cells scope.names []),qual:=X.env.qual,func:=none,code:=X.env.code,frame:=X.env.frame,builtins:=X.env.builtins }:Env)=compEnvC scope (zJ X scope (D+1)) (D+1) X.env:=by
  rintro l rfl;rfl
 rw[z1,z2];refine codeAny_compStart_list ?_ (T.self _ 0 _ _ _ (T.keep 0 _ _ st fun b hb o e=>keep2 b o (keep1 b o e)) ?_)
 ·exact loop _
 ·exact loop _
theorem z4K{C:Addr}{px:Pos}(I:Inv X pins σ H s)(h:CompOk X.N X.env.scope scope [x] N'):PG (zO X scope N' C s H fp) (.Name x px) (uR σ.length):=by
 have hx:=h.here;have e0:N'[X.N.length]?=some x:=by
  have:=congrArg (fun l=>l[0]?) hx;simpa using this
 refine yh h.nd (by rw[I.len];exact e0) ?_ ?_
 ·show(relabel scope X.env).names.lookup x=_\/_;rcases h.tgt x (by simp)with e | e
  ·left;rw[zr,e];rfl
  ·right
   show(relabel scope X.env).names.lookup x=_;rw[zr,e];rfl
 ·rcases h.tgt x (by simp)with e | e
  ·right
   show(relabel scope X.env).names.lookup x=_;rw[zr,e];rfl
  ·left
   show(scope.names.lookup x == some NameKind.cell)=true;rw[e];rfl
theorem CompW.gen{J:It}{tc:TT}{te:TE}{n:Nat}{W:Nat->List V->Hp->Prop}(h:CompW J σ tc te n W):CompWG J σ (uR σ.length) [x].length tc te n W:=
 ⟨h.small,h.stop,h.go,fun i ys H os v H' hi ho w y=>by
  match os,ho with
  | [o],_=>exact⟨[some v],rfl,z25 _ _ _,by rw[z25];exact h.step i ys H v H' hi w y⟩⟩
noncomputable def z41(wi:TI)(tc:TT)(te:TE):TE:=fun σ H Q=>wi σ H fun J H1=>∃(n:Nat) (W:Nat->List V->Hp->Prop),W 0 [] H1/\CompW J σ tc te n W/\∀ys H',W n ys H'->∀D,H' D=none->Q (.ref D) (upd H' D (.lst ys))
theorem z0X(I:Inv X pins σ H s)(h:CompOk X.N X.env.scope scope xs N'):closureFor scope X.env=pure (zx X.env.cells scope.names []):=
 z5J fun n hn=>I.ok.has n (h.cap n hn)
theorem z3L{N:List Str}{sc:Scope}{elt iter:Expr}{ifs:List Expr}{px pos:Pos}{wi:TI}{tc:TT}{te:TE}(hc:X.calm=true)(hN:X.N=N)(hsc:X.env.scope=sc)(h:wf N sc scope x N'=true)
  (hi:PI X (.Name x px) iter wi) (hf:∀C s H fp,PF (zO X scope N' C s H fp) ifs tc) (he:∀C s H fp,PE (zO X scope N' C s H fp) elt te)
  (hs:∀x,foldedSetIterable iter X.env x=pure x:=by intro _;rfl):PE X (.ListComp elt [⟨.Name x px,iter,ifs,0⟩] scope pos) (z41 wi tc te):=by
 intro pins s σ H Q I q;subst hN hsc;have ok:=CompOk.of h;rw[eval_ListComp];refine wpAny_comprehension_free (use:=none) rfl hs (z0X I ok) ok.kind (fun y hy hl=>by rw[ok.uniq y hy,hl]) (thn (hi pins s σ H _ I q) fun v s1 h1=>thn h1 fun itv s2 h2=>?_);obtain⟨it,fp,tn,J,H2,e,I2,T,st2,f2,n,W,w0,CW,fin⟩:=h2;subst e;refine z0E (RR:=fun acc C=>compPost (model X.prog X.w) X.A X.xe none (EP X pins σ Q) acc C) ok hc (fun C fp=>he C s2 H2 fp) (fun C fp=>hf C s2 H2 fp) (fun C fp=>z4K I2 ok) I2 T st2 f2 w0 CW.gen ?_;intro C D s' H' ys us k pl hCs hDs hDC J' hD hDn rv hl w;obtain⟨m,hm,_⟩:=J'.loc;exact⟨m,hm,fun g hg=>⟨.ref D,_,z09 I2 f2 hCs hDs hDC J' hD hDn rv hl hg,rfl,fin ys H' w D hDn⟩⟩
theorem xS{scope:Scope}{env:Env}:∀y:Str,(scope.names.lookup y=some .cell\/scope.names.lookup y=some .free)->((relabel scope env).names.lookup y=some .cell\/(relabel scope env).names.lookup y=some .free):=by
 intro y h;rw[zr];rcases h with h | h
 ·rw[h];exact .inl rfl
 ·rw[h,Option.map_some];split
  ·exact .inl rfl
  ·exact .inr rfl
theorem z5o{N:List Str}{sc:Scope}{elt iter:Expr}{ifs:List Expr}{px pos:Pos}{wi:TI}{tc:TT}{te:TE}(hc:X.calm=true)(hN:X.N=N)
  (hcap:∀y:Str,(sc.names.lookup y=some .cell\/sc.names.lookup y=some .free)->(X.env.scope.names.lookup y=some .cell\/X.env.scope.names.lookup y=some .free)) (h:wf N sc scope x N'=true)
  (hi:PI X (.Name x px) iter wi) (hf:∀C s H fp,PF (zO X scope N' C s H fp) ifs tc) (he:∀C s H fp,PE (zO X scope N' C s H fp) elt te)
  (hs:∀x,foldedSetIterable iter X.env x=pure x:=by intro _;rfl):PE X (.ListComp elt [⟨.Name x px,iter,ifs,0⟩] scope pos) (z41 wi tc te):=by
 intro pins s σ H Q I q;subst hN;have ok0:=CompOk.of h;have ok:CompOk X.N X.env.scope scope [x] N':={ ok0 with cap:=fun y hy=>hcap y (ok0.cap y hy) };rw[eval_ListComp];refine wpAny_comprehension_free (use:=none) rfl hs (z0X I ok) ok.kind (fun y hy hl=>by rw[ok.uniq y hy,hl]) (thn (hi pins s σ H _ I q) fun v s1 h1=>thn h1 fun itv s2 h2=>?_);obtain⟨it,fp,tn,J,H2,e,I2,T,st2,f2,n,W,w0,CW,fin⟩:=h2;subst e;refine z0E (RR:=fun acc C=>compPost (model X.prog X.w) X.A X.xe none (EP X pins σ Q) acc C) ok hc (fun C fp=>he C s2 H2 fp) (fun C fp=>hf C s2 H2 fp) (fun C fp=>z4K I2 ok) I2 T st2 f2 w0 CW.gen ?_;intro C D s' H' ys us k pl hCs hDs hDC J' hD hDn rv hl w;obtain⟨m,hm,_⟩:=J'.loc;exact⟨m,hm,fun g hg=>⟨.ref D,_,z09 I2 f2 hCs hDs hDC J' hD hDn rv hl hg,rfl,fin ys H' w D hDn⟩⟩
noncomputable def z5P(i:Nat)(wi:TI)(tc:TT)(te:TE):TS:=fun D σ H=>z41 wi tc te σ H fun x H1=>D.nx (σ.set i (some x)) H1
theorem z4D{N:List Str}{sc:Scope}{elt iter:Expr}{ifs:List Expr}{y:Str}{i:Nat}{px py pos spos:Pos}{wi:TI}{tc:TT}{te:TE}(hc:X.calm=true)(hN:X.N=N)(hsc:X.env.scope=sc)(h:wf N sc scope x N'=true)
  (hnd:X.N.Nodup) (hy:X.N[i]?=some y) (hl:X.env.scope.names.lookup y=some .local)
  (hi:PI X (.Name x px) iter wi) (hf:∀C s H fp,PF (zO X scope N' C s H fp) ifs tc) (he:∀C s H fp,PE (zO X scope N' C s H fp) elt te)
  (hsw:swapsWith (.ListComp elt [⟨.Name x px,iter,ifs,0⟩] scope pos) (some (.Name y py)) spos.line X.env=pure true:=by rfl)
  (hs:∀x,foldedSetIterable iter X.env x=pure x:=by intro _;rfl):PS X (.Assign [.Name y py] (.ListComp elt [⟨.Name x px,iter,ifs,0⟩] scope pos) spos) (z5P i wi tc te):=by
 intro pins s σ H D I q;subst hN hsc;have ok:=CompOk.of h;rw[exec_Assign_Name_used _ _ _ _ hsw];refine wpAny_bind (wpAny_standAt (wpAny_bind ?_));show wpAny _ X.A (do let _<-comprehension (.ListComp elt [⟨.Name x px,iter,ifs,0⟩] scope pos) scope X.env _ (newList []) false (eval iter X.env) (some (assign (.Name y py) X.env))) _ _ s;refine wpAny_bind (wpAny_mono (wpAny_comprehension_free (use:=some (assign (.Name y py) X.env)) (Q:=fun _ s'=>SP X pins D .next s') rfl hs (z0X I ok) ok.kind (fun y hy hl=>by rw[ok.uniq y hy,hl]) (thn (hi pins s σ H _ I q) fun v s1 h1=>thn h1 fun itv s2 h2=>?_))
  (fun _ s' z=>wpAny_pure (wpAny_pure z)) fun _ _ e=>e)
 obtain⟨it,fp,tn,J,H2,e,I2,T,st2,f2,n,W,w0,CW,fin⟩:=h2;subst e;refine z0E (RR:=fun acc C=>compPost (model X.prog X.w) X.A X.xe (some (assign (.Name y py) X.env)) (fun _ s'=>SP X pins D .next s') acc C) ok hc (fun C fp=>he C s2 H2 fp) (fun C fp=>hf C s2 H2 fp) (fun C fp=>z4K I2 ok) I2 T st2 f2 w0 CW.gen ?_;intro C D' s' H' ys us k pl hCs hDs hDC J' hD hDn rv hlen w;obtain⟨m,hm,_⟩:=J'.loc;have K1:Inv X pins σ (upd H' D' (.lst ys)) s':=z09 (g:=s'.heap) I2 f2 hCs hDs hDC J' hD hDn rv hlen (.refl ..);have hCL:C≠X.env.locals:=Nat.ne_of_gt (Nat.lt_of_lt_of_le I2.lt hCs);have hcl:∀z c,X.env.cells.lookup z=some c->c≠C:=fun z c e=>by
  obtain⟨v,q⟩:=I2.cell z c e;exact Nat.ne_of_lt (Nat.lt_of_lt_of_le q.lt hCs)
 show wpAny (model X.prog X.w) X.A (assign (.Name y py) X.env (.ref D')) _ _ s';refine wpAny_assign_Name (z1A (v:=.ref D') K1 hnd hy (.inl hl) rfl (fun s'' K2 ch=>?_) (.inr hl));obtain⟨a,sb,ha⟩:=ch;have hCa:C≠a:=by
  rcases ha with rfl | ha
  ·exact hCL
  ·exact(hcl y a ha).symm
 refine⟨m,hm.sameBut sb hCa,fun g hg=>⟨_,_,K2.turned (t':=s''.toks) (it:=C) (fun b o hb e=>(hg.2 b hb).trans e) ?_ hCL (.inr (Nat.le_trans I2.sz hCs)) hcl fun p hp z=>?_,fin ys H' w D' hDn⟩⟩
 ·rw[z9 hDC.symm];exact J'.free
 ·exact absurd (Nat.lt_of_lt_of_le (Heap.lt_size (I2.pin p hp).1) hCs) (by rw[z];exact Nat.lt_irrefl _)
end
theorem Vals.back:∀{xs:List V} {us:List Value} {i:Nat} {u:Value},Vals xs us->us[i]?=some u->∃x,xs[i]?=some x/\RelV x u
 | _,_,_,_,.nil,e=>by simp at e
 | _,_,0,_,.cons r _,e=>by simp at e;subst e;exact⟨_,rfl,r⟩
 | _,_,i+1,u,.cons _ t,e=>by
  obtain⟨x,h1,h2⟩:=Vals.back (i:=i) (u:=u) t (by simpa using e);exact⟨x,by simpa using h1,h2⟩
theorem z3O(bs:List Bool):((List.range bs.length).all fun i=>bs.getD i false)=bs.all id:=by
 rw[Bool.eq_iff_iff,List.all_eq_true,List.all_eq_true];constructor
 ·intro h b hb;obtain⟨i,hi,rfl⟩:=List.mem_iff_getElem.mp hb
  have:=h i (List.mem_range.mpr hi);simpa[List.getD_eq_getElem?_getD,hi]using this
 ·intro h i hi;have hi':=List.mem_range.mp hi
  have:=h bs[i] (List.getElem_mem hi');simpa[List.getD_eq_getElem?_getD,hi']using this
theorem z4f(bs:List Bool):((List.range bs.length).any fun i=>bs.getD i false)=bs.any id:=by
 rw[Bool.eq_iff_iff,List.any_eq_true,List.any_eq_true];constructor
 ·rintro⟨i,hi,h⟩;have hi':=List.mem_range.mp hi;refine⟨bs[i],List.getElem_mem hi',?_⟩;simpa[List.getD_eq_getElem?_getD,hi']using h
 ·rintro⟨b,hb,h⟩;obtain⟨i,hi,rfl⟩:=List.mem_iff_getElem.mp hb;exact⟨i,List.mem_range.mpr hi,by simpa[List.getD_eq_getElem?_getD,hi]using h⟩
theorem xT(ns:List Int):∀j,j<=ns.length->preSum (fun i=>ns.getD i 0) j=(ns.take j).sum
 | 0,_=>rfl
 | j+1,h=>by
  have hj:j<ns.length:=h;rw[preSum,xT ns j (by omega),List.take_add_one,List.getElem?_eq_getElem hj,List.sum_append];simp[List.getD_eq_getElem?_getD,hj]
section
variable{X:Cx}
theorem z2W{bs:List Bool}{its:List Value}(rv:Vals (bs.map V.bl) its){i:Nat}{v:Value}(e:its.toArray[i]?=some v):v=.bool (bs.getD i false):=by
 obtain⟨x,e1,r⟩:=rv.back (u:=v) (i:=i) (by simpa using e);rw[List.getElem?_map]at e1;cases q:bs[i]? with
 | none=>rw[q]at e1;cases e1
 | some b=>
  rw[q]at e1;cases e1;rw[List.getD_eq_getElem?_getD,q];exact r
theorem z6j{ns:List Int}{its:List Value}(rv:Vals (ns.map V.int) its){i:Nat}{v:Value}(e:its.toArray[i]?=some v):∃t,v=.int (ns.getD i 0) t:=by
 obtain⟨x,e1,r⟩:=rv.back (u:=v) (i:=i) (by simpa using e);rw[List.getElem?_map]at e1;cases q:ns[i]? with
 | none=>rw[q]at e1;cases e1
 | some b=>
  rw[q]at e1;cases e1;rw[List.getD_eq_getElem?_getD,q];exact r
theorem uJ{xs:List V}{its:List Value}(rv:Vals xs its):its.toArray.size=xs.length:=by rw[List.size_toArray,rv.length]
theorem z4m(hc:X.calm=true):CallR X (.builtin "all") (fun xs H Q=>∃(p:Addr) (bs:List Bool),xs=[.ref p]/\SqL X.K H p (bs.map V.bl)/\Q (.bl (bs.all id)) H):=by
 intro pins s σ H xs us Q I r h;obtain⟨p,bs,rfl,hq,q⟩:=h;obtain⟨u,rfl,ru⟩:=yq r;cases ru;obtain⟨its,rv,pl,hz⟩:=I.list hq;have hlt:p<s.heap.objs.size:=by obtain⟨o,e,_⟩:=pl.isList;exact Heap.lt_size e
 refine call_all_walk (wpAny_pyIter_list pl.isList ⟨s.heap.objs.size,_,_,_,_,_,fun i=>bs.getD i false,rfl,Walks.list (A:=X.A.in1) (I.ok.hd hc) s.heap.objs.size p (Nat.ne_of_lt hlt) its.toArray,⟨⟨_,Heap.get?_push_size _ rfl,rfl,rfl⟩,pl.isList.push _⟩,?_,fun h' tk hk=>?_⟩)
 ·intro i v s' Q' E' hv hQ;rw[z2W rv hv];exact wpAny_truthy_bool hQ
 ·rw[uJ rv,List.length_map,z3O];exact⟨.bl _,H,I.kept (t':=tk) fun b o e=>hk b o (by simpa using Nat.ne_of_lt (Heap.lt_size e)) (Heap.get?_push_of_some _ e),rfl,q⟩
theorem z3c(hc:X.calm=true):CallR X (.builtin "any") (fun xs H Q=>∃(p:Addr) (bs:List Bool),xs=[.ref p]/\SqL X.K H p (bs.map V.bl)/\Q (.bl (bs.any id)) H):=by
 intro pins s σ H xs us Q I r h;obtain⟨p,bs,rfl,hq,q⟩:=h;obtain⟨u,rfl,ru⟩:=yq r;cases ru;obtain⟨its,rv,pl,hz⟩:=I.list hq;have hlt:p<s.heap.objs.size:=by obtain⟨o,e,_⟩:=pl.isList;exact Heap.lt_size e
 refine call_any_walk (wpAny_pyIter_list pl.isList ⟨s.heap.objs.size,_,_,_,_,_,fun i=>bs.getD i false,rfl,Walks.list (A:=X.A.in1) (I.ok.hd hc) s.heap.objs.size p (Nat.ne_of_lt hlt) its.toArray,⟨⟨_,Heap.get?_push_size _ rfl,rfl,rfl⟩,pl.isList.push _⟩,?_,fun h' tk hk=>?_⟩)
 ·intro i v s' Q' E' hv hQ;rw[z2W rv hv];exact wpAny_truthy_bool hQ
 ·rw[uJ rv,List.length_map,z4f];exact⟨.bl _,H,I.kept (t':=tk) fun b o e=>hk b o (by simpa using Nat.ne_of_lt (Heap.lt_size e)) (Heap.get?_push_of_some _ e),rfl,q⟩
theorem z3I(hc:X.calm=true):CallR X (.builtin "sum") (fun xs H Q=>∃(p:Addr) (ns:List Int),xs=[.ref p]/\SqL X.K H p (ns.map V.int)/\ns.length<=1000/\(∀n∈ns,0<=n/\n<=1000000)/\Q (.int ns.sum) H):=by
 intro pins s σ H xs us Q I r h;obtain⟨p,ns,rfl,hq,hl,hb,q⟩:=h;obtain⟨u,rfl,ru⟩:=yq r;cases ru;obtain⟨its,rv,pl,hz⟩:=I.list hq;have hlt:p<s.heap.objs.size:=by obtain⟨o,e,_⟩:=pl.isList;exact Heap.lt_size e
 have lb:∀l:List Int,(∀n∈l,0<=n/\n<=1000000)->0<=l.sum/\l.sum<=1000000*l.length:=fun l=>by
  induction l with
  | nil=>intro _;simp
  | cons x r ih=>
   intro h;have h1:=h x List.mem_cons_self;have h2:=ih fun n hn=>h n (List.mem_cons_of_mem _ hn);rw[List.sum_cons,List.length_cons];omega
 have val:∀j,0<=ns.getD j 0/\ns.getD j 0<=1000000:=fun j=>by
  rw[List.getD_eq_getElem?_getD];cases e:ns[j]? with
  | none=>simp
  | some n=>exact hb n (List.mem_of_getElem? e)
 refine call_sum_walk (wpAny_pyIter_list pl.isList ⟨s.heap.objs.size,_,_,_,_,_,fun i=>ns.getD i 0,rfl,Walks.list (A:=X.A.in1) (I.ok.hd hc) s.heap.objs.size p (Nat.ne_of_lt hlt) its.toArray,⟨⟨_,Heap.get?_push_size _ rfl,rfl,rfl⟩,pl.isList.push _⟩,fun b hb=>?_,fun i v hv=>z6j rv hv,fun j hj=>?_,fun h' tk t' hk=>?_⟩)
 ·rw[Heap.size_push];have hb':b=s.heap.objs.size\/b=p:=by simpa using hb
  rcases hb' with z | z
  ·rw[z];exact Nat.lt_succ_self _
  ·rw[z];exact Nat.lt_succ_of_lt hlt
 ·have hj':j<ns.length:=by rw[uJ rv,List.length_map]at hj;exact hj
  have v1:=val j;have v2:=lb (ns.take (j+1)) fun n hn=>hb n (List.mem_of_mem_take hn);rw[xT ns (j+1) hj'];have l2:(ns.take (j+1)).length<=1000:=by rw[List.length_take];omega
  constructor
  ·constructor
   ·show -(2 ^ 63)<=ns.getD j 0;omega
   ·show ns.getD j 0<2 ^ 63;omega
  ·constructor<;>omega
 ·rw[uJ rv,List.length_map,xT ns _ (Nat.le_refl _),List.take_length];exact⟨.int _,H,I.kept (t':=tk) fun b o e=>hk b o (by simpa using Nat.ne_of_lt (Heap.lt_size e)) (Heap.get?_push_of_some _ e),⟨_,rfl⟩,q⟩
theorem xg:CallR X (.builtin "isinstance") (fun xs H Q=>∃(x:V) (t:Value) (T:String) (b:Bool),xs=[x,.ty T]/\TyOf X.K H x t/\W.kitOne X.K t (.type T)=some b/\Q (.bl b) H):=by
 intro pins s σ H xs us Q I r h;obtain⟨x,t,T,b,rfl,ty,e,q⟩:=h;obtain⟨u,w',rfl,r1,r2⟩:=z8x r;cases r2;exact z4n I r1 ty e fun tk=>⟨.bl b,H,I.tok tk,rfl,q⟩
theorem z5f(hu:X.A.units<cLine):OpR X (compareOp .Eq) (fun x y H Q=>∃(a b:Addr) (xs:List V),x=.ref a/\y=.ref b/\SqL X.K H a xs/\SqL X.K H b []/\Q (.bl xs.isEmpty) H):=by
 intro pins s σ H x y v u Q I rx ry h;obtain⟨a,b,xs,rfl,rfl,ha,hb,q⟩:=h;cases rx;cases ry;obtain⟨its,r1,p1,_⟩:=I.list ha;obtain⟨its2,r2,p2,_⟩:=I.list hb;have z2:its2.toArray.size=0:=uJ r2;cases xs with
 | nil=>
  have z1:its.toArray.size=0:=uJ r1;refine SeqAt.eq_listAt (e:=fun _=>true) p1.isList p2.isList (by rw[z1,z2]) hu (fun j h1 _=>by omega) ?_;rw[z1];exact⟨.bl true,H,I,rfl,q⟩
 | cons x r=>
  have z1:its.toArray.size=r.length+1:=uJ r1;exact SeqAt.eq_list_lengthsAt p1.isList p2.isList (by rw[z1,z2];rfl) hu ⟨.bl false,H,I,rfl,q⟩
end
end L2
namespace My
local macro_rules | `(tactic| omega)=>`(tactic| first | assumption | lia | omega +splitDisjunctions)
open PySem.W PyProof.Rows
noncomputable def Gives{α:Type}(f:Nat->Int)(N:Nat):KasT α->(α->Prop)->Prop
 | .ret a,Q=>Q a
 | .ask i j k,Q=>i<N/\j<N/\Gives f N (k (decide (f i<f j))) Q
theorem Gives.bind{α β:Type}{f:Nat->Int}{N:Nat}{g:α->KasT β}{Q:β->Prop}:∀{t:KasT α},Gives f N t (fun a=>Gives f N (g a) Q)->Gives f N (KasT.bind t g) Q
 | .ret _,h=>h
 | .ask _ _ k,h=>⟨h.1,h.2.1,Gives.bind (t:=k _) h.2.2⟩
theorem Gives.mono{α:Type}{f:Nat->Int}{N:Nat}{Q Q':α->Prop}(hq:∀a,Q a->Q' a):∀{t:KasT α},Gives f N t Q->Gives f N t Q'
 | .ret a,h=>hq a h
 | .ask _ _ k,h=>⟨h.1,h.2.1,Gives.mono hq (t:=k _) h.2.2⟩
def Bel(N:Nat)(p:Array Nat):Prop:=∀k,p.getD k 0<N
theorem Bel.perm{N:Nat}{p q:Array Nat}(h:Bel N p)(hq:q.Perm p):Bel N q:=fun k=>by
 rw[Array.getD_eq_getD_getElem?];cases e:q[k]? with
 | none=>exact Nat.lt_of_le_of_lt (Nat.zero_le _) (h 0)
 | some v=>
  have m:v∈p:=hq.mem_iff.mp (Array.mem_of_getElem? e);obtain⟨i,hi,rfl⟩:=Array.mem_iff_getElem.mp m
  have:=h i;rw[Array.getD_eq_getD_getElem?,Array.getElem?_eq_getElem hi]at this;exact this
section
variable{f:Nat->Int}{N:Nat}
noncomputable def at_(f:Nat->Int)(p:Array Nat)(k:Nat):Int:=f (p.getD k 0)
def Up(f:Nat->Int)(p:Array Nat)(n:Nat):Prop:=∀i,i+1<n->at_ f p i<=at_ f p (i+1)
def Down(f:Nat->Int)(p:Array Nat)(n:Nat):Prop:=∀i,i+1<n->at_ f p (i+1)<=at_ f p i
theorem Up.le{p:Array Nat}{n:Nat}(h:Up f p n):∀{i j:Nat},i<=j->j<n->at_ f p i<=at_ f p j:=by
  intro i j hij hj
  induction j with
  | zero => have : i = 0 := by omega
            subst this;exact Int.le_refl _
  | succ j ih=>
    by_cases e:i=j+1
    · subst e;exact Int.le_refl _
    · exact Int.le_trans (ih (by omega) (by omega)) (h j hj)
theorem uE{p q:Array Nat}{k l:Nat}(h:p[k]?=q[l]?):p.getD k 0=q.getD l 0:=by
 rw[Array.getD_eq_getD_getElem?,Array.getD_eq_getD_getElem?,h]
theorem uz{p:Array Nat}{i j:Nat}(hj:j<=p.size)(k:Nat):at_ f (kas_rev p i j) k=if i<=k/\k<j then at_ f p (i+j - 1 - k)else at_ f p k:=by
 have e:=getElem?_mirror_all (i:=i) hj k;unfold at_ kas_rev;split at e
 next h=>rw[if_pos h,uE e]
 next h=>rw[if_neg h,uE e]
theorem z08(p:Array Nat)(i j:Nat):(kas_rev p i j).size=p.size:=mirror_size _ _ _ _
theorem yT(p:Array Nat)(i j:Nat):(kas_rev p i j).Perm p:=mirror_perm _ _ _ _
theorem z6F{p:Array Nat}(hp:Bel N p):∀(fu n:Nat),1<=n->Up f p n->Gives f N (kas_asc p fu n) fun m=>n<=m/\m<=n+fu/\Up f p m
 | 0,n,_,h=>⟨Nat.le_refl _,Nat.le_refl _,h⟩
 | fu+1,n,h1,h=>by
  refine⟨hp _,hp _,?_⟩;show Gives f N (if decide (f (p.getD n 0)<f (p.getD (n - 1) 0))=true then _ else _) _;by_cases c:f (p.getD n 0)<f (p.getD (n - 1) 0)
  ·rw[if_pos (by simpa using c)];exact⟨Nat.le_refl _,by omega,h⟩
  ·rw[if_neg (by simpa using c)];refine(z6F hp fu (n+1) (by omega) fun i hi=>?_).mono fun m ⟨a,b,c⟩=>⟨by omega,by omega,c⟩;by_cases e:i+1=n
   ·subst e;unfold at_
    have:i+1 - 1=i:=by omega
    rw[this]at c;omega
   ·exact h i (by omega)
theorem z0N:∀(fu:Nat) (p:Array Nat) (n q:Nat),Bel N p->q+1<=n->n+fu<=p.size->Down f p n->(∀k,n<=k+(q+1)->k<n->at_ f p k=at_ f p (n - 1))->
  Gives f N (kas_desc fu p n q) fun r=>r.1.Perm p/\n<=r.2.1/\r.2.1<=n+fu/\r.2.2+1<=r.2.1/\Down f r.1 r.2.1/\(∀k,r.2.1<=k+(r.2.2+1)->k<r.2.1->at_ f r.1 k=at_ f r.1 (r.2.1 - 1))
 | 0,p,n,q,hp,h1,h2,h3,h4=>⟨Array.Perm.refl _,Nat.le_refl _,Nat.le_refl _,h1,h3,h4⟩
 | fu+1,p,n,q,hp,h1,h2,h3,h4=>by
  refine⟨hp _,hp _,?_⟩;show Gives f N (if decide (f (p.getD n 0)<f (p.getD (n - 1) 0))=true then _ else _) _;have hn:n - 1+1=n:=by omega
  have single:∀(p':Array Nat) (k:Nat),n+1<=k+(0+1)->k<n+1->at_ f p' k=at_ f p' (n+1 - 1):=fun p' k a b=>by
   have:k=n:=by omega
   subst this;rfl
  by_cases c:f (p.getD n 0)<f (p.getD (n - 1) 0)
  ·rw[if_pos (by simpa using c)];have dn:Down f p (n+1):=fun i hi=>by
    by_cases e:i+1=n
    ·subst e
     have:i+1 - 1=i:=by omega
     rw[this]at c;unfold at_;omega
    ·exact h3 i (by omega)
   by_cases hq:q>0
   ·rw[if_pos hq];have same:∀k,at_ f (kas_rev p (n - (q+1)) n) k=at_ f p k:=fun k=>by
     rw[uz (by omega)];split
     next h=>rw[h4 k (by omega) h.2,h4 _ (by omega) (by omega)]
     next=>rfl
    have z:=z0N fu (kas_rev p (n - (q+1)) n) (n+1) 0 (hp.perm (yT _ _ _)) (by omega) (by rw[z08];omega) (fun i hi=>by rw[same,same];exact dn i hi) (single _);exact z.mono fun r ⟨a1,a2,a3,a4,a5,a6⟩=>⟨a1.trans (yT _ _ _),by omega,by omega,a4,a5,a6⟩
   ·rw[if_neg hq];exact(z0N fu p (n+1) 0 hp (by omega) (by omega) dn (single _)).mono fun r ⟨a1,a2,a3,a4,a5,a6⟩=>⟨a1,by omega,by omega,a4,a5,a6⟩
  ·rw[if_neg (by simpa using c)];refine⟨hp _,hp _,?_⟩;show Gives f N (if decide (f (p.getD (n - 1) 0)<f (p.getD n 0))=true then _ else _) _;by_cases d:f (p.getD (n - 1) 0)<f (p.getD n 0)
   ·rw[if_pos (by simpa using d)];exact⟨Array.Perm.refl _,Nat.le_refl _,Nat.le_add_right _ _,h1,h3,h4⟩
   ·rw[if_neg (by simpa using d)];have e:at_ f p n=at_ f p (n - 1):=by unfold at_;omega
    refine(z0N fu p (n+1) (q+1) hp (by omega) (by omega) (fun i hi=>?_) fun k a b=>?_).mono fun r ⟨a1,a2,a3,a4,a5,a6⟩=>⟨a1,by omega,by omega,a4,a5,a6⟩
    ·by_cases e':i+1=n
     ·subst e';rw[e];exact Int.le_refl _
     ·exact h3 i (by omega)
    ·show at_ f p k=at_ f p n;by_cases e':k=n
     ·subst e';rfl
     ·rw[e];exact h4 k (by omega) (by omega)
theorem z3s{n nrem:Nat}{p:Array Nat}(hp:Bel N p)(h1:1<=n)(h2:n<=nrem)(h3:nrem<=p.size)(h:Down f p n):Gives f N (kas_tail3 n nrem p) fun r=>1<=r.1/\r.1<=nrem/\r.2.Perm p/\Up f r.2 r.1:=by
 refine Gives.bind ((z6F (hp.perm (yT _ _ _)) (nrem - n) n h1 fun i hi=>?_).mono fun m ⟨a,b,c⟩=>⟨by omega,by show m<=nrem;omega,yT _ _ _,c⟩);rw[uz (by omega),uz (by omega),if_pos (by omega),if_pos (by omega)]
 have:=h (0+n - 1 - (i+1)) (by omega)
 rwa [show 0+n - 1 - (i+1)+1=0+n - 1 - i by omega]at this
theorem uF{n nrem:Nat}{p:Array Nat}(hp:Bel N p)(h1:1<=n)(h2:n<nrem)(h3:nrem<=p.size)(h:Down f p (n+1)):Gives f N (kas_descPart n nrem p) fun r=>1<=r.1/\r.1<=nrem/\r.2.Perm p/\Up f r.2 r.1:=by
 refine Gives.bind ((z0N (nrem - (n+1)) p (n+1) 0 hp (by omega) (by omega) h fun k a b=>(by have e:k=n:=(by omega);rw[e];rfl)).mono fun r ⟨a1,a2,a3,a4,a5,a6⟩=>?_);have sz:r.1.size=p.size:=a1.size_eq;show Gives f N (if r.2.2>0 then _ else _) _;by_cases hq:r.2.2>0
 ·rw[if_pos hq];have same:∀k,at_ f (kas_rev r.1 (r.2.1 - (r.2.2+1)) r.2.1) k=at_ f r.1 k:=fun k=>by
   rw[uz (by omega)];split
   next h=>rw[a6 k (by omega) h.2,a6 _ (by omega) (by omega)]
   next=>rfl
  exact(z3s ((hp.perm a1).perm (yT _ _ _)) (by omega) (by omega) (by rw[z08];omega) fun i hi=>by rw[same,same];exact a5 i hi).mono fun z ⟨b1,b2,b3,b4⟩=>⟨b1,b2,(b3.trans (yT _ _ _)).trans a1,b4⟩
 ·rw[if_neg hq];exact(z3s (hp.perm a1) (by omega) (by omega) (by omega) a5).mono fun z ⟨b1,b2,b3,b4⟩=>⟨b1,b2,b3.trans a1,b4⟩
theorem z5Q{nrem:Nat}{p:Array Nat}(hp:Bel N p)(h1:1<=nrem)(h3:nrem<=p.size):Gives f N (kas_count nrem p) fun r=>1<=r.1/\r.1<=nrem/\r.2.Perm p/\Up f r.2 r.1:=by
 refine Gives.bind ?_;have key:∀(fu n:Nat),1<=n->Up f p n->Gives f N (kas_asc p fu n) fun m=>n<=m/\m<=n+fu/\Up f p m/\(m<n+fu->at_ f p m<at_ f p (m - 1)):=by
  intro fu
  induction fu with
  | zero=>intro n _ h;exact⟨Nat.le_refl _,Nat.le_refl _,h,fun z=>by omega⟩
  | succ fu ih=>
   intro n h1 h;refine⟨hp _,hp _,?_⟩;show Gives f N (if decide (f (p.getD n 0)<f (p.getD (n - 1) 0))=true then _ else _) _;by_cases c:f (p.getD n 0)<f (p.getD (n - 1) 0)
   ·rw[if_pos (by simpa using c)];exact⟨Nat.le_refl _,by omega,h,fun _=>c⟩
   ·rw[if_neg (by simpa using c)];refine(ih (n+1) (by omega) fun i hi=>?_).mono fun m ⟨a,b,c,d⟩=>⟨by omega,by omega,c,fun z=>d (by omega)⟩;by_cases e:i+1=n
    ·subst e;unfold at_
     have:i+1 - 1=i:=by omega
     rw[this]at c;omega
    ·exact h i (by omega)
 refine(key (nrem - 1) 1 (Nat.le_refl _) fun i hi=>by omega).mono fun n ⟨a,b,c,d⟩=>?_;show Gives f N (if (n == nrem)=true then _ else _) _;by_cases e:n=nrem
 ·rw[if_pos (by simpa using e)];exact⟨a,by omega,Array.Perm.refl _,c⟩
 ·rw[if_neg (by simpa using e)];have lt:=d (by omega);by_cases hn:n>1
  ·rw[if_pos hn];refine⟨hp _,hp _,?_⟩;show Gives f N (if decide (f (p.getD 0 0)<f (p.getD (n - 1) 0))=true then _ else _) _;by_cases g:f (p.getD 0 0)<f (p.getD (n - 1) 0)
   ·rw[if_pos (by simpa using g)];exact⟨a,by omega,Array.Perm.refl _,c⟩
   ·rw[if_neg (by simpa using g)];have flat:∀k,k<n->at_ f p k=at_ f p (n - 1):=fun k hk=>by
     have l1:=c.le (Nat.zero_le k) hk;have l2:=c.le (show k<=n - 1 by omega) (by omega)
     have:at_ f p (n - 1)<=at_ f p 0:=by unfold at_;omega
     omega
    refine(uF (hp.perm (yT _ _ _)) a (by omega) (by rw[z08];omega) fun i hi=>?_).mono fun r ⟨b1,b2,b3,b4⟩=>⟨b1,b2,b3.trans (yT _ _ _),b4⟩;rw[uz (by omega),uz (by omega)];by_cases e1:i+1<n
    ·rw[if_pos (by omega),if_pos (by omega),flat (0+n - 1 - (i+1)) (by omega),flat (0+n - 1 - i) (by omega)];exact Int.le_refl _
    ·have:i+1=n:=by omega
     rw[if_neg (by omega),if_pos (by omega),flat (0+n - 1 - i) (by omega),this];omega
  ·rw[if_neg hn]
   have:n=1:=by omega
   subst this;refine uF hp a (by omega) h3 fun i hi=>?_
   have:i=0:=by omega
   subst this;exact Int.le_of_lt lt
theorem z0F{p:Array Nat}{k:Nat}(hp:Bel N p)(hu:Up f p k):∀(fu l r:Nat),l<=r->r<=k->r - l<=fu->(∀i,i<l->at_ f p i<=at_ f p k)->(∀i,r<=i->i<k->at_ f p k<at_ f p i)->
  Gives f N (kas_place p k fu l r) fun m=>m<=k/\(∀i,i<m->at_ f p i<=at_ f p k)/\(∀i,m<=i->i<k->at_ f p k<at_ f p i)
 | 0,l,r,h1,h2,h3,h4,h5=>by
  have:l=r:=by omega
  subst this;exact⟨h2,h4,h5⟩
 | fu+1,l,r,h1,h2,h3,h4,h5=>by
  unfold kas_place;by_cases e:l>=r
  ·rw[if_pos e]
   have:l=r:=by omega
   subst this;exact⟨h2,h4,h5⟩
  ·rw[if_neg e];refine⟨hp _,hp _,?_⟩;show Gives f N (if decide (f (p.getD k 0)<f (p.getD ((l+r) / 2) 0))=true then _ else _) _;by_cases c:f (p.getD k 0)<f (p.getD ((l+r) / 2) 0)
   ·rw[if_pos (by simpa using c)];refine z0F hp hu fu l ((l+r) / 2) (by omega) (by omega) (by omega) h4 fun i hi hk=>?_;exact Int.lt_of_lt_of_le (show at_ f p k<at_ f p ((l+r) / 2) from c) (hu.le hi hk)
   ·rw[if_neg (by simpa using c)];refine z0F hp hu fu ((l+r) / 2+1) r (by omega) h2 (by omega) (fun i hi=>?_) h5
    have:at_ f p ((l+r) / 2)<=at_ f p k:=by unfold at_;omega
    exact Int.le_trans (hu.le (show i<=(l+r) / 2 by omega) (by omega)) this
theorem z63:∀(fu:Nat) (p:Array Nat) (k:Nat),Bel N p->1<=k->k+fu<=p.size->Up f p k->Gives f N (kas_bin fu p k) fun r=>r.Perm p/\Up f r (k+fu)
 | 0,p,k,_,_,_,h=>⟨Array.Perm.refl _,h⟩
 | fu+1,p,k,hp,h1,h2,h=>by
  refine Gives.bind ((z0F hp h k 0 k (Nat.zero_le _) (Nat.le_refl _) (by omega) (fun i hi=>by omega) fun i a b=>by omega).mono fun l ⟨a,b,c⟩=>?_);have get:∀j,at_ f (bubble p k (k - l)) j=if j=l then at_ f p k else if l<j/\j<=k then at_ f p (j - 1)else at_ f p j:=fun j=>by
   have e:=getElem?_bubble (xs:=p) (src:=k) (by omega) (k - l) (by omega) j;have kl:k - (k - l)=l:=by omega
   rw[kl]at e;unfold at_;split at e
   next h=>rw[if_pos h,uE e]
   next h=>
    rw[if_neg h];split at e
    next h'=>rw[if_pos h',uE e]
    next h'=>rw[if_neg h',uE e]
  have z:=z63 fu (bubble p k (k - l)) (k+1) (hp.perm (bubble_perm _ _ _)) (by omega) (by rw[bubble_size];omega) fun i hi=>by
   rw[get,get];by_cases e1:i=l
   ·subst e1;rw[if_pos rfl,if_neg (by omega)];by_cases e2:i<k
    ·rw[if_pos (by omega)]
     have:=c i (Nat.le_refl _) e2;simpa using Int.le_of_lt this
    ·have:i+1<=k:=by omega
     omega
   ·rw[if_neg e1];by_cases e2:i<l
    ·rw[if_neg (by omega)];by_cases e3:i+1=l
     ·rw[if_pos e3];exact b i e2
     ·rw[if_neg e3,if_neg (by omega)];exact h i (by omega)
    ·rw[if_pos (by omega),if_neg (by omega),if_pos (by omega)]
     have:=h (i - 1) (by omega)
     rwa [show i - 1+1=i+1 - 1 by omega]at this
  exact z.mono fun r ⟨q1,q2⟩=>⟨q1.trans (bubble_perm _ _ _),by rw[show k+(fu+1)=k+1+fu by omega];exact q2⟩
theorem sort_ok{n:Nat}(h2:1<=n):Gives f n (kas_sort n) fun r=>r.Perm (List.toArray (List.range n))/\Up f r n:=by
 have sz:(List.toArray (List.range n)).size=n:=by simp
 have hb:Bel n (List.toArray (List.range n)):=fun k=>by
  rw[Array.getD_eq_getD_getElem?];by_cases hk:k<n
  ·simp[hk]
  ·simp[hk];omega
 refine Gives.bind ((z5Q hb h2 (by omega)).mono fun r ⟨a1,a2,a3,a4⟩=>?_);show Gives f n (if r.1<n then _ else _) _;by_cases e:r.1<n
 ·rw[if_pos e];have hm:max r.1 1=r.1:=by omega
  rw[hm];have z:=z63 (f:=f) (N:=n) (n - r.1) r.2 r.1 (hb.perm a3) a1 (by rw[a3.size_eq,sz];omega) a4;exact z.mono fun q ⟨q1,q2⟩=>⟨q1.trans a3,by rwa [show r.1+(n - r.1)=n by omega]at q2⟩
 ·rw[if_neg e]
  have:r.1=n:=by omega
  exact⟨a3,by rwa [this]at a4⟩
end
end My
namespace L2
open PySem PySem.Spec PyProof.Rows
section
variable{prog:Program}{w:World}{A:Around}{R:Result->Shared->Prop}
end
section
variable{X:Cx}
end
open PySem.W (KasT kas_sort kas_ask kat_run kat_snds kat_kind kat_lt KatTups KatLex kat_nil kat_cons kat_go kat_yes kat_no kat_one kat_lt_int)
theorem z2h{α:Type}{N:Nat}{f:Nat->Int}{cmp:Nat->Nat->(Bool->Shared->Prop)->Shared->Prop}{Q:α->Shared->Prop}{s:Shared}(hc:∀i j C,i<N->j<N->C (decide (f i<f j)) s->cmp i j C s):
  ∀{t:KasT α},My.Gives f N t (fun a=>Q a s)->t.kasWp cmp Q s
 | .ret _,h=>h
 | .ask i j k,h=>hc i j _ h.1 h.2.1 (z2h hc h.2.2)
noncomputable abbrev z1j(vs:List Value)(p:Array Nat):Array Value:=List.toArray (p.toList.map fun i=>vs.getD i Value.none)
section
variable{prog:Program}{w:World}{A:Around}{E:Value->Shared->Prop}{s:Shared}
theorem z8j{a:Addr}{vs:List Value}{n:Nat}{P:PySem.Fin->Shared->Prop}{f:Nat->Int}{κ:SortKind}(ho:s.heap.get? a=some (seqObj "list" vs.toArray n))(h64:vs.length<64)
  (kind:∀(s':Shared) (Q:SortKind->Shared->Prop) (E:Value->Shared->Prop),2<=vs.length->(∀b o,b≠a->s.heap.get? b=some o->s'.heap.get? b=some o)->Q κ s'->wpAny (model prog w) A (keyKind' vs.toArray) Q E s')
  (cmp:∀(i j:Nat) (s':Shared) (Q:Bool->Shared->Prop) (E:Value->Shared->Prop),i<vs.length->j<vs.length->(∀b o,b≠a->s.heap.get? b=some o->s'.heap.get? b=some o)->Q (decide (f i<f j)) s'->wpAny (model prog w) A (keyLt' κ (vs.getD i Value.none) (vs.getD j Value.none)) Q E s')
  (h:∀p:Array Nat,p.Perm (List.toArray (List.range vs.length))->My.Up f p vs.length->P (.done (.ret .none)) { s with heap:=sortedHeap s.heap a vs (z1j vs p) }) :
  wpAny (model prog w) A (Builtin.«list.sort» ⟨[.ref a],[]⟩) P E s:=by
 rw[list_sort_plain];have ha:a<s.heap.objs.size:=Heap.lt_size ho;refine wpAny_bind (listItems_at ho rfl ?_);refine wpAny_bind (listUpdate_at ho rfl ?_ (by rw[List.size_toArray,sizeLine_eq];omega) (Nat.zero_le _));obtain⟨e1,ho1⟩:∃e1,(s.heap.update a (Obj.mapSeq fun _=>(#[]:Array Value))).get? a=some (seqObj "list" #[] e1):=⟨_,get?_update_seq ho (fun _=>#[])⟩;refine wpAny_bind (seqEpoch_at ho1 rfl ?_);refine wpAny_bind (wpAny_newTuple ?_ (by rw[sizeLine_eq];show vs.toArray.toList.length<=_;simp;omega));refine wpAny_bind (wpAny_newList ?_ (Nat.zero_le _));refine wpAny_holding ?_;have ho6:(((s.heap.update a (Obj.mapSeq fun _=>#[])).push (seqObj "tuple" vs.toArray 0)).push (seqObj "list" #[] 0)).get? a=some (seqObj "list" #[] e1):=
  Heap.get?_push_of_some _ (Heap.get?_push_of_some _ ho1)
 have kp:∀b o,b≠a->s.heap.get? b=some o->(((s.heap.update a (Obj.mapSeq fun _=>#[])).push (seqObj "tuple" vs.toArray 0)).push (seqObj "list" #[] 0)).get? b=some o:=fun b o hb e=>
  Heap.get?_push_of_some _ (Heap.get?_push_of_some _ ((Heap.get?_update_other _ _ (Ne.symm hb)).trans e))
 show wpAny (model prog w) A _ P E { s with heap:=((s.heap.update a (Obj.mapSeq fun _=>#[])).push (seqObj "tuple" vs.toArray 0)).push (seqObj "list" #[] 0) };dsimp only;have hsz:vs.toArray.size=vs.length:=by simp
 by_cases h2:vs.toArray.size<2
 ·rw[if_pos h2,if_pos h2];refine wpAny_bind (wpAny_pure ?_);rw[StateT.run_pure];refine wpAny_bind (wpAny_pure ?_);dsimp only;have out:(arrOf (SortSt.mk' general' (vs.toArray.zip vs.toArray) #[] 7 none)).map (·.2)=z1j vs (List.toArray (List.range vs.length)):=by
   have z1:((vs.toArray.zip vs.toArray).map (·.2))=vs.toArray:=by
    apply Array.toList_inj.mp;simp[List.map_snd_zip]
   have z2:z1j vs (List.toArray (List.range vs.length))=vs.toArray:=by
    apply Array.toList_inj.mp;refine List.ext_getElem (by simp) fun i a b=>?_;have b':i<vs.length:=by simpa using b
    simp[b']
   rw[z2];exact z1
  refine wpAny_bind (seqEpoch_at ho6 rfl ?_);rw[out];refine wpAny_bind (listUpdate_at ho6 rfl ?_ (Nat.zero_le _) (by rw[List.size_toArray,List.length_map,sizeLine_eq];simp;omega));simp only[bne_self_eq_false,Bool.false_eq_true,if_false];exact wpAny_pure (h _ (Array.Perm.refl _) fun i hi=>by omega)
 ·rw[if_neg h2,if_neg h2];have h2':2<=vs.length:=by omega
  refine wpAny_bind (kind _ _ _ h2' kp ?_);refine wpAny_bind (wpAny_mono (kat_run (E:=E) (κ:=κ) (ks:=vs) (Q:=fun st' s'=>s'={ s with heap:=((s.heap.update a (Obj.mapSeq fun _=>#[])).push (seqObj "tuple" vs.toArray 0)).push (seqObj "list" #[] 0) }/\failedOf st'=none/\∃p:Array Nat,p.Perm (List.toArray (List.range vs.length))/\My.Up f p vs.length/\(arrOf st').map (·.2)=z1j vs p)
   (G:=fun p s'=>s'={ s with heap:=((s.heap.update a (Obj.mapSeq fun _=>#[])).push (seqObj "tuple" vs.toArray 0)).push (seqObj "list" #[] 0) }/\p.Perm (List.toArray (List.range vs.length))/\My.Up f p vs.length) rfl h2' h64
   (fun p st' s' _ har hf ⟨g1,g2,g3⟩=>⟨g1,hf,p,g2,g3,kat_snds rfl har⟩)
   (z2h (N:=vs.length) (f:=f) (fun i j C hi hj hC=>cmp i j _ C _ hi hj kp hC) ((My.sort_ok (by omega)).mono fun p hp=>⟨rfl,hp⟩))) ?_ fun _ _ e=>e)
  rintro⟨⟨⟩,st'⟩ s' ⟨rfl,hf,p,hp,hup,out⟩;dsimp only at hf out |-;refine wpAny_bind (seqEpoch_at ho6 rfl ?_);rw[out];refine wpAny_bind (listUpdate_at ho6 rfl ?_ (Nat.zero_le _) (by rw[List.size_toArray,List.length_map,Array.length_toList,hp.size_eq,sizeLine_eq];simp;omega));rw[hf];simp only[bne_self_eq_false,Bool.false_eq_true,if_false];exact wpAny_pure (h p hp hup)
end
section
variable{X:Cx}
end
mutual
noncomputable def DatV(H:Hp):PyData->V->Prop
 | .none,v=>v=.non
 | .bool b,v=>v=.bl b
 | .int i,v=>v=.int i
 | .str x,v=>v=.str x
 | .list ds,v=>∃a xs,v=.ref a/\H a=some (.lst xs)/\DatAll H ds xs
 | .tuple ds,v=>∃a xs,v=.ref a/\H a=some (.tup xs)/\DatAll H ds xs
 | .dict _,_=>False
noncomputable def DatAll(H:Hp):List PyData->List V->Prop
 | [],xs=>xs=[]
 | d::ds,xs=>∃x r,xs=x::r/\DatV H d x/\DatAll H ds r
end
mutual
theorem DatV.same{H H':Hp}(s:∀b o,H b=some o->H' b=some o):∀{d:PyData} {v:V},DatV H d v->DatV H' d v
 | .none,_,h=>by simp only[DatV]at h |-;exact h
 | .bool _,_,h=>by simp only[DatV]at h |-;exact h
 | .int _,_,h=>by simp only[DatV]at h |-;exact h
 | .str _,_,h=>by simp only[DatV]at h |-;exact h
 | .list _,_,h=>by
  simp only[DatV]at h |-;obtain⟨a,xs,e,h1,h2⟩:=h;exact⟨a,xs,e,s _ _ h1,DatAll.same s h2⟩
 | .tuple _,_,h=>by
  simp only[DatV]at h |-;obtain⟨a,xs,e,h1,h2⟩:=h;exact⟨a,xs,e,s _ _ h1,DatAll.same s h2⟩
 | .dict _,_,h=>by simp only[DatV]at h
theorem DatAll.same{H H':Hp}(s:∀b o,H b=some o->H' b=some o):∀{ds:List PyData} {xs:List V},DatAll H ds xs->DatAll H' ds xs
 | [],_,h=>by simp only[DatAll]at h |-;exact h
 | _::_,_,h=>by
  simp only[DatAll]at h |-;obtain⟨x,r,e,h1,h2⟩:=h;exact⟨x,r,e,DatV.same s h1,DatAll.same s h2⟩
end
mutual
theorem DatV.reads{P:Program}{w:World}{H:Hp}{h:Heap}(ok:HOk P w H h):∀{d:PyData} {v:V} {u:Value},DatV H d v->RelV v u->∃as,Reads h u d as
 | .none,_,_,e,r=>by simp only[DatV]at e;subst e;cases r;exact⟨_,.none⟩
 | .bool _,_,_,e,r=>by simp only[DatV]at e;subst e;cases r;exact⟨_,.bool _⟩
 | .int _,_,_,e,r=>by simp only[DatV]at e;subst e;obtain⟨t,rfl⟩:=r;exact⟨_,.int _ _⟩
 | .str _,_,_,e,r=>by simp only[DatV]at e;subst e;obtain⟨t,rfl⟩:=r;exact⟨_,.str _ _⟩
 | .list ds,_,_,e,r=>by
  simp only[DatV]at e;obtain⟨a,xs,rfl,h1,h2⟩:=e;cases r;obtain⟨_,its,n,rv,g⟩:=(show ObjOk P w H h a (.lst xs) from ok a _ h1);obtain⟨as,ra⟩:=DatAll.reads ok h2 rv;exact⟨_,.list g rfl rfl (by simpa using ra)⟩
 | .tuple ds,_,_,e,r=>by
  simp only[DatV]at e;obtain⟨a,xs,rfl,h1,h2⟩:=e;cases r;obtain⟨_,its,rv,o,g1,g2,n,g3⟩:=(show ObjOk P w H h a (.tup xs) from ok a _ h1);obtain⟨as,ra⟩:=DatAll.reads ok h2 rv;exact⟨_,.tuple g1 g2 g3 (by simpa using ra)⟩
 | .dict _,_,_,e,_=>by simp only[DatV]at e
theorem DatAll.reads{P:Program}{w:World}{H:Hp}{h:Heap}(ok:HOk P w H h):∀{ds:List PyData} {xs:List V} {us:List Value},DatAll H ds xs->Vals xs us->∃as,ReadsAll h us ds as
 | [],_,_,e,r=>by simp only[DatAll]at e;subst e;cases r;exact⟨_,.nil⟩
 | d::ds,_,_,e,r=>by
  simp only[DatAll]at e;obtain⟨x,r',rfl,h1,h2⟩:=e;cases r with
  | cons r1 r2=>
   obtain⟨as,ra⟩:=DatV.reads ok h1 r1;obtain⟨bs,rb⟩:=DatAll.reads ok h2 r2;exact⟨_,.cons ra rb⟩
end
section
variable{X:Cx}
noncomputable def rEqD(neg:Bool):R2:=fun x y H Q=>∃d e,DatV H d x/\DatV H e y/\d.canLay0=true/\e.canLay0=true/\min d.depth e.depth<=60/\Q (.bl (if neg then !PyData.eqv d e else PyData.eqv d e)) H
theorem z7o(hu:X.A.units+64<cLine):OpR X (compareOp .Eq) (rEqD false):=by
 intro pins s σ H x y v u Q I rx ry h;obtain⟨d,e,h1,h2,c1,c2,hd,q⟩:=h;obtain⟨as,r1⟩:=DatV.reads I.hok h1 rx;obtain⟨bs,r2⟩:=DatV.reads I.hok h2 ry;exact SeqAt.compareEq_reads r1 r2 c1 c2 (by omega) ⟨.bl _,H,I,rfl,q⟩
theorem z8J(hu:X.A.units+64<cLine):OpR X (compareOp .NotEq) (rEqD true):=by
 intro pins s σ H x y v u Q I rx ry h;obtain⟨d,e,h1,h2,c1,c2,hd,q⟩:=h;obtain⟨as,r1⟩:=DatV.reads I.hok h1 rx;obtain⟨bs,r2⟩:=DatV.reads I.hok h2 ry;exact SeqAt.compareNe_reads r1 r2 c1 c2 (by omega) ⟨.bl _,H,I,rfl,q⟩
noncomputable def rInD(neg:Bool):R2:=fun x y H Q=>∃d ds,DatV H d x/\(DatV H (.list ds) y\/DatV H (.tuple ds) y)/\d.canLay0=true/\PyData.canLayAll0 ds=true/\d.depth<=60/\Q (.bl (if neg then !(ds.any fun y=>PyData.eqv y d)else ds.any fun y=>PyData.eqv y d)) H
theorem z7a(hu:X.A.units+64<cLine):OpR X (compareOp .In) (rInD false):=by
 intro pins s σ H x y v u Q I rx ry h;obtain⟨d,ds,h1,h2,c1,c2,hd,q⟩:=h;obtain⟨as,r1⟩:=DatV.reads I.hok h1 rx;rcases h2 with h2 | h2
 ·obtain⟨bs,r2⟩:=DatV.reads I.hok h2 ry;exact SeqAt.in_list_reads r2 r1 c2 c1 (by have:=Nat.min_le_right (PyData.depthAll ds) d.depth;omega) ⟨.bl _,H,I,rfl,q⟩
 ·obtain⟨bs,r2⟩:=DatV.reads I.hok h2 ry;exact SeqAt.in_tuple_reads r2 r1 c2 c1 (by have:=Nat.min_le_right (PyData.depthAll ds) d.depth;omega) ⟨.bl _,H,I,rfl,q⟩
theorem z4W(hu:X.A.units+64<cLine):OpR X (compareOp .NotIn) (rInD true):=by
 intro pins s σ H x y v u Q I rx ry h;obtain⟨d,ds,h1,h2,c1,c2,hd,q⟩:=h;obtain⟨as,r1⟩:=DatV.reads I.hok h1 rx;rcases h2 with h2 | h2
 ·obtain⟨bs,r2⟩:=DatV.reads I.hok h2 ry;exact SeqAt.notIn_list_reads r2 r1 c2 c1 (by have:=Nat.min_le_right (PyData.depthAll ds) d.depth;omega) ⟨.bl _,H,I,rfl,q⟩
 ·obtain⟨bs,r2⟩:=DatV.reads I.hok h2 ry;exact SeqAt.notIn_tuple_reads r2 r1 c2 c1 (by have:=Nat.min_le_right (PyData.depthAll ds) d.depth;omega) ⟨.bl _,H,I,rfl,q⟩
noncomputable def z8T:R2:=fun x y H Q=>∃a b xs ys,x=.ref a/\y=.ref b/\H a=some (.tup xs)/\H b=some (.tup ys)/\xs.length+ys.length<=sizeLine/\∀p H',Same H H'->H' p=some (.tup (xs++ys))->Q (.ref p) H'
theorem z2c{H:Hp}{D:Addr}{o:HO}(h:H D=none):Same H (upd H D o):=fun b x e=>by rw[z9 (zL e h)];exact e
theorem op_catTT:OpR X (binaryOp .Add) z8T:=by
 intro pins s σ H x y v u Q I rx ry h;obtain⟨a,b,xs,ys,rfl,rfl,ha,hb,hz,q⟩:=h;by_cases hx:xs=[]
 ·cases rx;cases ry;subst hx;obtain⟨its,r1,p1,_⟩:=I.tuple (SqT.of (K:=X.K) ha);obtain⟨its2,r2,p2,_⟩:=I.tuple (SqT.of (K:=X.K) hb);cases r1;obtain⟨⟨cls,dd,data,sl⟩,ho,hc,n,hd⟩:=id p1;obtain⟨⟨cls2,dd2,data2,sl2⟩,ho2,hc2,n2,hd2⟩:=id p2;simp only at hc hd hc2 hd2;subst hc hd hc2 hd2;exact concat_meets ⟨_,ho,rfl⟩ ⟨_,ho2,rfl⟩ noFill_tuple_add seq_tuple_add PySem.F.slot_tuple_add PySem.F.entry_tuple_add (PySem.F.args_tuple_add_2 _ _)
   (tuple_addW0 a b #[] its2.toArray n n2 dd dd2 sl sl2 rfl) ⟨ho,ho2,⟨.ref b,H,I,rfl,q b H (fun _ _ e=>e) (by simpa using hb)⟩⟩
 ·refine z6X pins s σ H _ _ v u Q I rx ry ⟨a,b,xs,ys,rfl,rfl,SqT.of ha,SqT.of hb,hx,hz,fun e=>?_,fun e p hp=>q p _ (z2c hp) z6⟩;subst e;exact q a H (fun _ _ e=>e) (by simpa using ha)
theorem wH:fillsNumberSlot (.type "tuple") "mul"=pure false:=
 PySem.fillsNumberSlot_seq (id:="tuple.__mul__") (r:=some (.builtin "tuple.__rmul__")) F.slot_tuple_mul.lookup (by decide +kernel) F.slot_tuple_rmul.lookup (by decide +kernel)
theorem z1K:seqRepeat? (.type "tuple")=pure (some (.builtin "tuple.__mul__")):=by
 unfold seqRepeat?;rw[PySem.seqSlot_of (T:="tuple") (name:="__mul__") (id:="tuple.__mul__") F.slot_tuple_mul.lookup (by decide +kernel),PySem.seqSlot_of (T:="tuple") (name:="__rmul__") (id:="tuple.__rmul__") F.slot_tuple_rmul.lookup (by decide +kernel)];rfl
theorem yo(a:Int)(t:Tok)(l:Addr)(items:Array Value)(n:Nat)(dd:Option Addr)(sl:Array (Option Value)):
  Meets (Builtin.«int.__rmul__» ⟨[.int a t,.ref l],[]⟩) (fun _ R s=>s.heap.get? l=some { cls:=.type "tuple",dict:=dd,data:=.seq items n,slots:=sl }/\R (.ok (.ret Value.notImplemented)) s):=
 .of_wp fun prog w A R s h=>by obtain⟨hp,g,d,tk,os⟩:=s;obtain⟨hl,h⟩:=h;wp_walk;exact⟨_,rfl,h⟩
theorem z1W(l:Addr)(items:Array Value)(n:Nat)(dd:Option Addr)(sl:Array (Option Value))(x:Int)(u:Tok)(h1 : -(2 ^ 63)<=x)(h2:x<2 ^ 63)(hc0:(items.isEmpty || x == 1)=true):
    Meets (Builtin.«tuple.__mul__» ⟨[.ref l,.int x u],[]⟩) (fun _ R s=>s.heap.get? l=some { cls:=.type "tuple",dict:=dd,data:=.seq items n,slots:=sl }/\R (.ok (.ret (Value.ref l))) s):=
  .of_wp fun prog w A R s h=>by
    obtain⟨hp,g,d,tk,os⟩:=s;obtain⟨hl,h⟩:=h;have f1:=AutoSeq1.idx_int;have hb:(decide (x < -(2 ^ 63)) || decide (x>=2 ^ 63))=false:=by simp;omega
    wp_walk using wpAny_loadPart' hl
    refine wpAny_ite_false (decide_eq_false (by rw[hb];exact Bool.false_ne_true)) ?_
    wp_walk using wpAny_loadPart' hl
    first
      | exact⟨_,rfl,h⟩
      | (refine wpAny_ite_true (decide_eq_true hc0) ?_
         wp_walk using wpAny_loadPart' hl
         exact⟨_,rfl,h⟩)
theorem z1z(l:Addr)(items:Array Value)(n:Nat)(dd:Option Addr)(sl:Array (Option Value))(x:Int)(u:Tok)(h1:1<x)(h2:x<2 ^ 63)(hc0:items.isEmpty=false)(hz:items.size*x.toNat<=sizeLine):
  Meets (Builtin.«tuple.__mul__» ⟨[.ref l,.int x u],[]⟩) (fun _ R s=>s.heap.get? l=some { cls:=.type "tuple",dict:=dd,data:=.seq items n,slots:=sl }/\R (.ok (.ret (Value.ref s.heap.objs.size))) { s with heap:=s.heap.push { cls:=Value.type "tuple",data:=Data.seq (List.foldl (fun x1 x2=>x1++x2) #[] (List.replicate x.toNat items)) },toks:=s.toks }):=
 .of_wp fun prog w A R s h=>by
  obtain⟨hp,g,d,tk,os⟩:=s;obtain⟨hl,h⟩:=h;have f1:=AutoSeq1.idx_int;have hb:(decide (x < -(2 ^ 63)) || decide (x>=2 ^ 63))=false:=by simp;omega
  have hc1:(items.isEmpty || x == 1)=false:=by rw[hc0];simp;omega
  have hc2:(decide (x<=0) || items.isEmpty)=false:=by rw[hc0];simp;omega
  have hm:((items.size:Int)*x)=((items.size*x.toNat:Nat):Int):=by
   rw[Int.natCast_mul,Int.toNat_of_nonneg (by omega)]
  have hc3:¬((items.size:Int)*x>(2 ^ 63 - 1) / 8):=by
   rw[hm]
   have:(sizeLine:Nat)<=(2 ^ 63 - 1) / 8:=by decide
   omega
  have hc4:Builtin.Tuple.tupleTooMany ((items.size:Int)*x)=false:=by
   rw[hm];unfold Builtin.Tuple.tupleTooMany;exact decide_eq_false (by omega)
  wp_walk using wpAny_loadPart' hl
  refine wpAny_ite_false (decide_eq_false (by rw[hb];exact Bool.false_ne_true)) ?_
  wp_walk using wpAny_loadPart' hl
  refine wpAny_ite_false (decide_eq_false (by rw[hc1];exact Bool.false_ne_true)) ?_;show wpAny _ _ (if (decide (x<=0) || items.isEmpty)=true then _ else _) _ _ _;refine wpAny_ite_false (decide_eq_false (by rw[hc2];exact Bool.false_ne_true)) ?_;show wpAny _ _ (if (items.size:Int)*x>(2 ^ 63 - 1) / 8 then _ else _) _ _ _;refine wpAny_ite_false (decide_eq_false hc3) ?_;show wpAny _ _ (if Builtin.Tuple.tupleTooMany ((items.size:Int)*x)=true then _ else _) _ _ _;refine wpAny_ite_false (decide_eq_false (by rw[hc4];exact Bool.false_ne_true)) ?_;have hsz:sizeOk (.seq (List.foldl (fun x1 x2=>x1++x2) #[] (List.replicate x.toNat items))):=by
   show(List.foldl (fun x1 x2=>x1++x2) #[] (List.replicate x.toNat items)).size<=sizeLine;have f0:∀(m:Nat) (acc:Array Value),(List.foldl (fun x1 x2=>x1++x2) acc (List.replicate m items)).size=acc.size+m*items.size:=fun m=>by
    induction m with
    | zero=>intro acc;simp
    | succ m ih=>intro acc;rw[List.replicate_succ,List.foldl_cons,ih,Array.size_append,Nat.succ_mul];omega
   rw[f0,Nat.mul_comm];simpa using hz
  exact wpAny_bind (m:=Builtin.Tuple.tupleExact _) (wpAny_newObj_type (wpAny_pure ⟨_,rfl,h⟩) hsz)
noncomputable def z7s:R2:=fun x y H Q=>∃a k xs,x=.ref a/\y=.int k/\H a=some (.tup xs)/\0<k/\k<1000000/\xs.length*k.toNat<=sizeLine/\∀p H',Same H H'->H' p=some (.tup (List.replicate k.toNat xs).flatten)->Q (.ref p) H'
theorem op_repTT:OpR X (binaryOp .Mult) z7s:=by
 intro pins s σ H x y v u Q I rx ry h;obtain⟨l,k,xs,rfl,rfl,hH,h1,h2,hz,q⟩:=h;cases rx;obtain⟨t,rfl⟩:=ry;obtain⟨its,r,ht,hl⟩:=I.tuple (SqT.of (K:=X.K) hH);have hlen:its.length=xs.length:=r.length.symm;obtain⟨⟨cls,dd,data,sl⟩,ho,hc,n,hd⟩:=id ht;simp only at hc hd;subst hc hd;refine wpAny_binaryOp_repeat_ref (T:="tuple") (U:="int") (by decide) ⟨_,ho,rfl⟩ (fun s'=>typeIs_int s' k t) wH F.fills_int_mul F.slot_int_rmul z1K F.slot_int_index.lookup
  (call_meets F.slot_int_rmul (typeIs_int s k t) F.entry_int_rmul (F.args_int_rmul_2 _ _) (yo k t l its.toArray n dd sl)
   ⟨ho,rfl,⟨_,ho,rfl⟩,?_⟩)
 by_cases hc:(its.toArray.isEmpty || k == 1)=true
 ·refine call_meets F.slot_tuple_mul ⟨_,ho,rfl⟩ F.entry_tuple_mul (F.args_tuple_mul_2 _ _) (z1W l its.toArray n dd sl k t (by omega) (by omega) hc) ⟨ho,?_⟩;refine⟨.ref l,H,I,rfl,q l H (fun _ _ e=>e) ?_⟩;rw[Bool.or_eq_true]at hc;rcases hc with hc | hc
  ·have:its=[]:=by simpa using hc
   subst this;cases r;rw[hH];simp
  ·have:k=1:=by simpa using hc
   subst this;rw[hH];simp
 ·have hc':(its.toArray.isEmpty || k == 1)=false:=by simpa using hc
  rw[Bool.or_eq_false_iff]at hc';have k1:k≠1:=by simpa using hc'.2
  refine call_meets F.slot_tuple_mul ⟨_,ho,rfl⟩ F.entry_tuple_mul (F.args_tuple_mul_2 _ _) (z1z l its.toArray n dd sl k t (by omega) (by omega) hc'.1 (by rw[List.size_toArray,hlen];exact hz)) ⟨ho,?_⟩;have f0:List.foldl (fun x1 x2=>x1++x2) #[] (List.replicate k.toNat its.toArray)=(List.replicate k.toNat its).flatten.toArray:=by
   have:=uO its k.toNat [];rw[List.nil_append]at this;exact this
  rw[f0];refine⟨.ref _,_,I.laid (t':=s.toks) (o:=.tup (List.replicate k.toNat xs).flatten) (fun b ob q=>Heap.get?_push_of_some _ q) (Nat.le_refl _) ?_,rfl,q _ _ (z2c (I.hok.fresh (Nat.le_refl _))) z6⟩;exact⟨⟨by rw[z3y,Nat.mul_comm];exact hz,_,Heap.get?_push_size _ rfl,rfl⟩,_,r.rep k.toNat,IsTup.new _ _⟩
end
end L2
namespace L2
open PySem PySem.Spec PyProof.Rows
inductive D where
 | p (x:PyData) | scr (ns:List Int) | town | fn (a:Addr) | exc (a C:Addr)
inductive Sl where
 | val (d:D) | own (x:PyData) | deep (kls:List (PyData×List PyData))
noncomputable abbrev Ix:=Nat×Nat
inductive Res(α:Type) where
 | ok (a:α) (n:Nat) | err (c:Str) (n:Nat) | bad
noncomputable def Mx(α:Type):Type:=Nat->Res α
noncomputable def Mx.ret{α:Type}(a:α):Mx α:=fun n=>.ok a n
noncomputable def Mx.bind{α β:Type}(m:Mx α)(f:α->Mx β):Mx β:=fun n=>match m n with
 | .ok a n'=>f a n'
 | .err c n'=>.err c n'
 | .bad=>.bad
noncomputable def Mx.bad{α:Type}:Mx α:=fun _=>.bad
noncomputable def Mx.opt{α:Type}:Option α->Mx α
 | some a=>Mx.ret a
 | none=>Mx.bad
noncomputable instance:Monad Mx where
 pure:=Mx.ret
 bind:=Mx.bind
theorem Mx.bind_def{α β:Type}(m:Mx α)(f:α->Mx β)(n:Nat):(m >>= f) n=(match m n with | .ok a n'=>f a n' | .err c n'=>.err c n' | .bad=>.bad):=rfl
noncomputable abbrev Env':=List (Option Sl)
inductive Out where
 | nx (ρ:Env') | rt (d:D) | bk (ρ:Env') | ct (ρ:Env')
def Kp(S:Addr->Prop)(H H':Hp):Prop:=∀b o,H b=some o->(¬S b\/∃xs,o=.tup xs)->H' b=some o
theorem Kp.refl(S:Addr->Prop)(H:Hp):Kp S H H:=fun _ _ h _=>h
theorem Kp.trans{S:Addr->Prop}{H H1 H2:Hp}(a:Kp S H H1)(b:Kp S H1 H2):Kp S H H2:=fun c o h k=>b c o (a c o h k) k
theorem Kp.of{S:Addr->Prop}{H H':Hp}(s:Same H H'):Kp S H H':=fun b o h _=>s b o h
theorem Kp.mono{S S':Addr->Prop}{H H':Hp}(k:Kp S H H')(h:∀a,S a->S' a):Kp S' H H':=fun b o e q=>k b o e (q.imp (fun z w=>z (h b w)) id)
noncomputable def wI:HO->Prop
 | .dK _=>True
 | .dT _=>True
 | _=>False
theorem Rd.kp{S:Addr->Prop}{H H':Hp}(k:Kp S H H'){b:Addr}{u:HO}(h:Rd H b u)(q:¬S b):Rd H' b u:=by
 rcases h with h | ⟨o,h⟩
 ·exact .inl (k b u h (.inl q))
 ·exact .inr ⟨o,k b _ h (.inl q)⟩
theorem Rd.some{H:Hp}{a:Addr}{u:HO}(h:Rd H a u):H a≠none:=by
 rcases h with h | ⟨o,h⟩<;>(rw[h];intro z;cases z)
theorem Rd.not_tup{H:Hp}{a:Addr}{u:HO}(h:Rd H a u)(hd:wI u):∀xs,H a≠.some (.tup xs):=fun xs z=>by
 rcases h with h | ⟨o,h⟩
 ·rw[h]at z;cases z;exact hd
 ·rw[h]at z;cases z
def Pl(H:Hp)(a:Addr):Prop:=∃o,H a=some o/\∀ob u,o≠.frz ob u
theorem Pl.some{H:Hp}{a:Addr}(h:Pl H a):H a≠none:=by
 obtain⟨o,e,_⟩:=h;rw[e];intro z;cases z
theorem Pl.kp{S:Addr->Prop}{H H':Hp}{a:Addr}(h:Pl H a)(k:Kp S H H')(q:¬S a):Pl H' a:=by
 obtain⟨o,e,n⟩:=h;exact⟨o,k _ _ e (.inl q),n⟩
theorem Pl.rd{H:Hp}{a:Addr}{u:HO}(h:Pl H a)(r:Rd H a u):H a=.some u:=by
 obtain⟨o,e,n⟩:=h;rcases r with r | ⟨ob,r⟩
 ·exact r
 ·rw[e]at r;cases r;exact absurd rfl (n ob u)
theorem Pl.upd{H:Hp}{a:Addr}{o:HO}(n:∀ob u,o≠.frz ob u:=by intro _ _ z;cases z):Pl (upd H a o) a:=⟨o,z6,n⟩
noncomputable def kD:Key->PyData
 | .inl i=>.int i
 | .inr x=>.str x
noncomputable def kT(k:List Key):PyData:=.tuple (k.map kD)
def DctAt(H:Hp)(a:Addr)(ks:List (PyData×V)):Prop:=
 (∃l:List (Key×V),Rd H a (.dK l)/\ks=l.map fun kv=>(kD kv.1,kv.2))\/∃l:List (List Key×V),Rd H a (.dT l)/\ks=l.map fun kv=>(kT kv.1,kv.2)
theorem DctAt.kp{S:Addr->Prop}{H H':Hp}{a:Addr}{ks:List (PyData×V)}(k:Kp S H H')(hs:¬S a)(h:DctAt H a ks):DctAt H' a ks:=by
 rcases h with ⟨l,h,e⟩ | ⟨l,h,e⟩
 ·exact .inl ⟨l,h.kp k hs,e⟩
 ·exact .inr ⟨l,h.kp k hs,e⟩
theorem DctAt.some{H:Hp}{a:Addr}{ks:List (PyData×V)}(h:DctAt H a ks):H a≠none:=by
 rcases h with ⟨l,h,_⟩ | ⟨l,h,_⟩<;>exact h.some
theorem DctAt.not_tup{H:Hp}{a:Addr}{ks:List (PyData×V)}(h:DctAt H a ks):∀xs,H a≠.some (.tup xs):=by
 rcases h with ⟨l,h,_⟩ | ⟨l,h,_⟩<;>exact h.not_tup True.intro
mutual
noncomputable def DatS(S:Addr->Prop)(H:Hp):PyData->V->Prop
 | .none,v=>v=.non
 | .bool b,v=>v=.bl b
 | .int i,v=>v=.int i
 | .str x,v=>v=.str x
 | .list ds,v=>∃a xs,v=.ref a/\¬S a/\H a=some (.lst xs)/\DatsS S H ds xs
 | .tuple ds,v=>∃a xs,v=.ref a/\H a=some (.tup xs)/\DatsS S H ds xs
 | .dict kvs,v=>∃a ks,v=.ref a/\¬S a/\DctAt H a ks/\DctS S H kvs ks
noncomputable def DatsS(S:Addr->Prop)(H:Hp):List PyData->List V->Prop
 | [],xs=>xs=[]
 | d::ds,xs=>∃x r,xs=x::r/\DatS S H d x/\DatsS S H ds r
noncomputable def DctS(S:Addr->Prop)(H:Hp):List (PyData×PyData)->List (PyData×V)->Prop
 | [],xs=>xs=[]
 | (k,d)::ds,xs=>∃x r,xs=(k,x)::r/\DatS S H d x/\DctS S H ds r
end
noncomputable def Dat1(T S:Addr->Prop)(H:Hp):PyData->V->Prop
 | .list ds,v=>∃a xs,v=.ref a/\¬T a/\H a=some (.lst xs)/\DatsS S H ds xs
 | .dict kvs,v=>∃a ks,v=.ref a/\¬T a/\DctAt H a ks/\DctS S H kvs ks
 | d,v=>DatS S H d v
theorem DatS.one{T S:Addr->Prop}{H:Hp}{d:PyData}{v:V}(hT:∀a,T a->S a)(h:DatS S H d v):Dat1 T S H d v:=by
 cases d<;>simp only[DatS,Dat1]at h |-
 case list=>obtain⟨a,xs,e,h0,h1,h2⟩:=h;exact⟨a,xs,e,fun z=>h0 (hT a z),h1,h2⟩
 case dict=>obtain⟨a,xs,e,h0,h1,h2⟩:=h;exact⟨a,xs,e,fun z=>h0 (hT a z),h1,h2⟩
 all_goals exact h
mutual
theorem DatS.kp{S S':Addr->Prop}{H H':Hp}(s:Kp S H H')(hS:∀a,S' a->S a\/H a=none):∀{d:PyData} {v:V},DatS S H d v->DatS S' H' d v
 | .none,_,h=>by simp only[DatS]at h |-;exact h
 | .bool _,_,h=>by simp only[DatS]at h |-;exact h
 | .int _,_,h=>by simp only[DatS]at h |-;exact h
 | .str _,_,h=>by simp only[DatS]at h |-;exact h
 | .list _,_,h=>by
  simp only[DatS]at h |-;obtain⟨a,xs,e,h0,h1,h2⟩:=h;exact⟨a,xs,e,fun z=>(hS a z).elim h0 fun q=>(by rw[q]at h1;cases h1),s _ _ h1 (.inl h0),DatsS.kp s hS h2⟩
 | .tuple _,_,h=>by
  simp only[DatS]at h |-;obtain⟨a,xs,e,h1,h2⟩:=h;exact⟨a,xs,e,s _ _ h1 (.inr ⟨_,rfl⟩),DatsS.kp s hS h2⟩
 | .dict _,_,h=>by
  simp only[DatS]at h |-;obtain⟨a,xs,e,h0,h1,h2⟩:=h;exact⟨a,xs,e,fun z=>(hS a z).elim h0 fun q=>h1.some q,h1.kp s h0,DctS.kp s hS h2⟩
theorem DatsS.kp{S S':Addr->Prop}{H H':Hp}(s:Kp S H H')(hS:∀a,S' a->S a\/H a=none):∀{ds:List PyData} {xs:List V},DatsS S H ds xs->DatsS S' H' ds xs
 | [],_,h=>by simp only[DatsS]at h |-;exact h
 | _::_,_,h=>by
  simp only[DatsS]at h |-;obtain⟨x,r,e,h1,h2⟩:=h;exact⟨x,r,e,DatS.kp s hS h1,DatsS.kp s hS h2⟩
theorem DctS.kp{S S':Addr->Prop}{H H':Hp}(s:Kp S H H')(hS:∀a,S' a->S a\/H a=none):∀{ds:List (PyData×PyData)} {xs:List (PyData×V)},DctS S H ds xs->DctS S' H' ds xs
 | [],_,h=>by simp only[DctS]at h |-;exact h
 | (_,_)::_,_,h=>by
  simp only[DctS]at h |-;obtain⟨x,r,e,h1,h2⟩:=h;exact⟨x,r,e,DatS.kp s hS h1,DctS.kp s hS h2⟩
end
theorem Dat1.move{T T' S S':Addr->Prop}{H H':Hp}(s:Kp S H H')(hS:∀a,S' a->S a\/H a=none){d:PyData}{v:V}(top:∀a,v=.ref a->H a≠none->¬T a->(∀o,H a=some o->H' a=some o)/\¬T' a)(h:Dat1 T S H d v):Dat1 T' S' H' d v:=by
 cases d<;>simp only[Dat1]at h |-
 case list=>
  obtain⟨b,xs,rfl,h0,h1,h2⟩:=h;obtain⟨t1,t2⟩:=top b rfl (by rw[h1];intro z;cases z) h0;exact⟨b,xs,rfl,t2,t1 _ h1,DatsS.kp s hS h2⟩
 case dict=>
  obtain⟨b,xs,rfl,h0,h1,h2⟩:=h;obtain⟨t1,t2⟩:=top b rfl h1.some h0;refine⟨b,xs,rfl,t2,?_,DctS.kp s hS h2⟩;have mv:∀{u:HO},Rd H b u->Rd H' b u:=fun{u} h=>h.imp (t1 _) fun⟨o,h⟩=>⟨o,t1 _ h⟩;rcases h1 with ⟨l,h,e⟩ | ⟨l,h,e⟩
  ·exact .inl ⟨l,mv h,e⟩
  ·exact .inr ⟨l,mv h,e⟩
 all_goals exact DatS.kp s hS h
theorem Dat1.kp{T U S:Addr->Prop}{H H':Hp}(s:Kp T H H')(hT:∀a,T a->U a)(hU:∀a,U a->S a){d:PyData}{v:V}(h:Dat1 U S H d v):Dat1 U S H' d v:=
 h.move (s.mono fun a z=>hU a (hT a z)) (fun a z=>.inl z) fun a _ _ ht=>⟨fun o e=>s _ _ e (.inl fun z=>ht (hT a z)),ht⟩
theorem Dat1.weak{T S:Addr->Prop}{H:Hp}{d:PyData}{v:V}(h:Dat1 T S H d v):Dat1 (fun _=>False) S H d v:=by
 cases d<;>simp only[Dat1]at h |-
 case list=>obtain⟨b,xs,e,_,h⟩:=h;exact⟨b,xs,e,id,h⟩
 case dict=>obtain⟨b,xs,e,_,h⟩:=h;exact⟨b,xs,e,id,h⟩
 all_goals exact h
structure Gh where
 aS:Addr
 ns:List Int
 aT:Option Addr
 S0:Addr->Prop
 H0:Hp
noncomputable def Gh.T(g:Gh):Addr->Prop:=fun b=>g.aT=some b
noncomputable def Gh.U(g:Gh):Addr->Prop:=fun b=>g.S0 b\/g.aT=some b
noncomputable def Gh.S(g:Gh)(ow:Ix->Option Addr):Addr->Prop:=fun b=>g.S0 b\/g.aT=some b\/∃i,ow i=some b
def Twn(g:Gh)(H:Hp)(n:Nat):Prop:=∀a,g.aT=some a->H a=some (.lst (List.replicate n (.int 0)))
def Scp(K:W.Frag)(g:Gh)(H:Hp):Prop:=(∀H':Hp,SqL K H' g.aS (g.ns.map V.int))\/(g.aT≠some g.aS/\SqL K H g.aS (g.ns.map V.int))
noncomputable def z7T(a C:Addr):Heap->Prop:=fun h=>∃o,h.get? a=some o/\o.cls=.ref C
noncomputable def Rep(g:Gh)(S:Addr->Prop)(H:Hp):D->V->Prop
 | .p x,v=>DatS S H x v
 | .scr ns,v=>ns=g.ns/\v=.ref g.aS
 | .town,v=>∃a,g.aT=some a/\v=.ref a
 | .fn a,v=>v=.ref a
 | .exc a C,v=>v=.ref a/\¬S a/\H a=some (.ext (z7T a C))
noncomputable def Rep1(g:Gh)(S:Addr->Prop)(H:Hp):D->V->Prop
 | .p x,v=>Dat1 g.U S H x v
 | .scr ns,v=>ns=g.ns/\v=.ref g.aS
 | .town,v=>∃a,g.aT=some a/\v=.ref a
 | .fn a,v=>v=.ref a
 | .exc a C,v=>v=.ref a/\¬S a/\H a=some (.ext (z7T a C))
theorem Rep1.d1{g:Gh}{S:Addr->Prop}{H:Hp}{x:PyData}{v:V}(h:Rep1 g S H (.p x) v):Dat1 g.U S H x v:=h
theorem Rep.one{g:Gh}{S:Addr->Prop}{H:Hp}{d:D}{v:V}(hT:∀a,g.U a->S a)(h:Rep g S H d v):Rep1 g S H d v:=by
 cases d with
 | p x=>exact DatS.one hT h
 | scr=>exact h
 | town=>exact h
 | fn=>exact h
 | exc=>exact h
theorem Rep.kp{g:Gh}{S S':Addr->Prop}{H H':Hp}(s:Kp S H H')(hS:∀a,S' a->S a\/H a=none){d:D}{v:V}(h:Rep g S H d v):Rep g S' H' d v:=by
 cases d with
 | p x=>exact DatS.kp s hS h
 | scr=>exact h
 | town=>exact h
 | fn=>exact h
 | exc a C=>exact⟨h.1,fun z=>(hS _ z).elim h.2.1 fun q=>(by have k:=h.2.2;rw[q]at k;cases k),s _ _ h.2.2 (.inl h.2.1)⟩
def Dp(g:Gh)(ow:Ix->Option Addr)(H:Hp)(i:Nat)(kls:List (PyData×List PyData))(v:V):Prop:=
 ∃a ks,v=.ref a/\ow (i,0)=some a/\DctAt H a ks/\ks.length=kls.length/\∀j k l,kls[j]?=some (k,l)->∃b xs,ks[j]?=some (k,.ref b)/\ow (i,j+1)=some b/\H b=some (.lst xs)/\DatsS (g.S ow) H l xs
theorem Dp.move{g g':Gh}{ow ow':Ix->Option Addr}{H H':Hp}{i:Nat}{kls:List (PyData×List PyData)}{v:V}(h:Dp g ow H i kls v)(hi:∀j a,ow (i,j)=some a->ow' (i,j)=some a)(top:∀j a,ow (i,j)=some a->∀o,H a=some o->H' a=some o)
  (kS:Kp (g.S ow) H H') (hS:∀a,g'.S ow' a->g.S ow a\/H a=none):Dp g' ow' H' i kls v:=by
 obtain⟨a,ks,e,e0,hd,hl,hk⟩:=h;refine⟨a,ks,e,hi _ _ e0,?_,hl,fun j k l ej=>?_⟩
 ·have mv:∀{u:HO},Rd H a u->Rd H' a u:=fun{u} h=>h.imp (top 0 a e0 _) fun⟨o,h⟩=>⟨o,top 0 a e0 _ h⟩;rcases hd with ⟨l,h,e⟩ | ⟨l,h,e⟩
  ·exact .inl ⟨l,mv h,e⟩
  ·exact .inr ⟨l,mv h,e⟩
 ·obtain⟨b,xs,q1,q2,q3,q4⟩:=hk j k l ej;exact⟨b,xs,q1,hi _ _ q2,top _ _ q2 _ q3,DatsS.kp kS hS q4⟩
structure Frm(K:W.Frag)(g:Gh)(ow:Ix->Option Addr)(ρ:Env')(n:Nat)(σ:St)(H:Hp):Prop where
 scr:Scp K g g.H0
 twn:Twn g H n
 sub:∀a,g.S0 a->g.H0 a≠none
 ext:Kp g.T g.H0 H
 val:∀(i:Nat) (d:D),ρ[i]?=some (some (Sl.val d))->∃v,σ[i]?=some (some v)/\Rep g (g.S ow) H d v
 own:∀(i:Nat) (x:PyData),ρ[i]?=some (some (Sl.own x))->∃a,ow (i,0)=some a/\σ[i]?=some (some (.ref a))/\Dat1 g.U (g.S ow) H x (.ref a)
 dp:∀(i:Nat) (kls:List (PyData×List PyData)),ρ[i]?=some (some (Sl.deep kls))->∃v,σ[i]?=some (some v)/\Dp g ow H i kls v
 owi:∀(i:Ix) (a:Addr),ow i=some a->g.H0 a=none/\Pl H a/\g.aT≠some a/\i.1<ρ.length
 inj:∀(i j:Ix) (a:Addr),ow i=some a->ow j=some a->i=j
 len:ρ.length=σ.length
section
variable{K:W.Frag}{g:Gh}{ow:Ix->Option Addr}{ρ:Env'}{n n':Nat}{σ:St}{H H':Hp}
theorem Kp.some{S:Addr->Prop}(k:Kp S H H'){a:Addr}(h:H a≠none)(hs:¬S a):H' a≠none:=by
 cases e:H a with
 | none=>exact absurd e h
 | some o=>rw[k _ _ e (.inl hs)];intro z;cases z
theorem Frm.dom(f:Frm K g ow ρ n σ H):∀a,g.S ow a->H a≠none:=by
 intro a h;by_cases ht:g.aT=.some a
 ·rw[f.twn a ht];intro z;cases z
 ·rcases h with h | h | ⟨i,h⟩
  ·exact f.ext.some (f.sub a h) ht
  ·exact absurd h ht
  ·exact(f.owi i a h).2.1.some
theorem Frm.kp(f:Frm K g ow ρ n σ H)(k:Kp g.T H H')(t:Twn g H' n'):Frm K g ow ρ n' σ H':=by
 have kS:Kp (g.S ow) H H':=k.mono fun a h=>.inr (.inl h);refine⟨f.scr,t,f.sub,f.ext.trans k,fun i d e=>?_,fun i x e=>?_,fun i kl e=>?_,fun i a e=>?_,f.inj,f.len⟩
 ·obtain⟨v,e1,r⟩:=f.val i d e;exact⟨v,e1,r.kp kS fun a h=>.inl h⟩
 ·obtain⟨a,e1,e2,r⟩:=f.own i x e;exact⟨a,e1,e2,r.kp k (fun a h=>.inr h) fun a h=>h.elim .inl fun z=>.inr (.inl z)⟩
 ·obtain⟨v,e1,r⟩:=f.dp i kl e;exact⟨v,e1,r.move (fun _ _ z=>z) (fun j a z o q=>k _ _ q (.inl (f.owi _ a z).2.2.1)) kS fun a h=>.inl h⟩
 ·obtain⟨e1,e2,e3,e4⟩:=f.owi i a e;exact⟨e1,e2.kp k e3,e3,e4⟩
theorem Frm.scp(f:Frm K g ow ρ n σ H):Scp K g H:=by
 rcases f.scr with h | ⟨h1,h2⟩
 ·exact .inl h
 ·refine .inr ⟨h1,?_⟩;rcases h2 with (h | ⟨o,h⟩) | h
  ·exact .inl (.inl (f.ext _ _ h (.inl h1)))
  ·exact .inl (.inr ⟨o,f.ext _ _ h (.inl h1)⟩)
  ·exact .inr h
end
noncomputable abbrev RG(α β:Type):=Gh->(Addr->Prop)->Hp->Hp->α->β->Prop
def AftG{α β:Type}(R:Hp->Hp->α->β->Prop)(g:Gh)(Er:Str->Hp->Prop)(H:Hp)(r:Res α)(Q:β->Hp->Prop):Prop:=match r with
 | .ok a n'=>∀v H',Kp g.T H H'->Twn g H' n'->R H H' a v->Q v H'
 | .err c n'=>∀H',Kp g.T g.H0 H'->Twn g H' n'->Er c H'
 | .bad=>False
noncomputable def rdG{α β:Type}(R:RG α β)(K:W.Frag)(Er:Str->Hp->Prop)(m:Env'->Mx α):St->Hp->(β->Hp->Prop)->Prop:=fun σ H Q=>
 ∃g ow ρ n,Frm K g ow ρ n σ H/\AftG (R g (g.S ow)) g Er H (m ρ n) Q
noncomputable abbrev RE:RG D V:=fun g S _ H' d v=>Rep g S H' d v
noncomputable abbrev RW:RG D V:=fun g S _ H' d v=>Rep1 g S H' d v
noncomputable abbrev RF:RG PyData V:=fun g S H H' x v=>∃a,v=.ref a/\H a=none/\Pl H' a/\Dat1 (fun _=>False) (fun b=>S b\/b=a) H' x (.ref a)
noncomputable abbrev RT:RG Bool Bool:=fun _ _ _ _ a b=>a=b
inductive All2{α β:Type}(R:α->β->Prop):List α->List β->Prop where
 | nil:All2 R [] []
 | cons {a b as bs}:R a b->All2 R as bs->All2 R (a::as) (b::bs)
theorem All2.imp{α β:Type}{R R':α->β->Prop}(h:∀a b,R a b->R' a b):∀{as:List α} {bs:List β},All2 R as bs->All2 R' as bs
 | _,_,.nil=>.nil
 | _,_,.cons r t=>.cons (h _ _ r) (All2.imp h t)
theorem All2.length{α β:Type}{R:α->β->Prop}:∀{as:List α} {bs:List β},All2 R as bs->as.length=bs.length
 | _,_,.nil=>rfl
 | _,_,.cons _ t=>congrArg (·+1) (All2.length t)
noncomputable abbrev RA:RG (List D) (List V):=fun g S _ H' ds vs=>All2 (Rep g S H') ds vs
noncomputable abbrev RAW:RG (List D) (List V):=fun g S _ H' ds vs=>All2 (Rep1 g S H') ds vs
section
variable{α β γ δ:Type}{K:W.Frag}{g:Gh}{ow:Ix->Option Addr}{ρ:Env'}{n n':Nat}{σ:St}{H H':Hp}{Er:Str->Hp->Prop}
theorem AftG.bind{R1:Hp->Hp->α->γ->Prop}{R2:Hp->Hp->β->δ->Prop}{m:Mx α}{f:α->Mx β}{Q:δ->Hp->Prop}{Z:γ->Hp->Prop}(h:AftG R2 g Er H ((m >>= f) n) Q)
  (k:∀a n' v H1,Kp g.T H H1->Twn g H1 n'->R1 H H1 a v->(∀{R3:Hp->Hp->β->δ->Prop},(∀H2 b u,R3 H1 H2 b u->R2 H H2 b u)->AftG R3 g Er H1 (f a n') Q)->Z v H1):AftG R1 g Er H (m n) Z:=by
 rw[Mx.bind_def]at h;cases e:m n with
 | ok a n'=>
  rw[e]at h;refine fun v H1 k1 t1 r1=>k a n' v H1 k1 t1 r1 fun{R3} hR=>?_;have h:AftG R2 g Er H (f a n') Q:=h;show AftG R3 g Er H1 (f a n') Q;generalize f a n'=r at h;cases r with
  | ok b n2=>exact fun v2 H2 k2 t2 r2=>h v2 H2 (k1.trans k2) t2 (hR _ _ _ r2)
  | err c n2=>exact h
  | bad=>exact h
 | err c n'=>rw[e]at h;exact h
 | bad=>rw[e]at h;exact h
theorem AftG.imp{R1 R2:Hp->Hp->α->γ->Prop}{r:Res α}{Q Q':γ->Hp->Prop}(h:AftG R1 g Er H r Q)(hR:∀H' a v,R2 H H' a v->R1 H H' a v)(hQ:∀v H',Q v H'->Q' v H'):AftG R2 g Er H r Q':=by
 cases r with
 | ok a n'=>exact fun v H' k t r=>hQ v H' (h v H' k t (hR _ _ _ r))
 | err c n'=>exact h
 | bad=>exact h
end
theorem PE.imp{X:Cx}{e:Expr}{t t':TE}(h:PE X e t)(k:∀σ H Q,t' σ H Q->t σ H Q):PE X e t':=fun pins s σ H Q I q=>h pins s σ H Q I (k σ H Q q)
theorem PT.imp{X:Cx}{e:Expr}{t t':TT}(h:PT X e t)(k:∀σ H Q,t' σ H Q->t σ H Q):PT X e t':=fun pins s σ H Q I q=>h pins s σ H Q I (k σ H Q q)
theorem PA.imp{X:Cx}{e:List Expr}{t t':TA}(h:PA X e t)(k:∀σ H Q,t' σ H Q->t σ H Q):PA X e t':=fun pos pins s σ H Q I q=>h pos pins s σ H Q I (k σ H Q q)
theorem PS.imp{X:Cx}{e:Stmt}{t t':TS}(h:PS X e t)(k:∀σ H Q,t' Q σ H->t Q σ H):PS X e t':=fun pins s σ H Q I q=>h pins s σ H Q I (k σ H Q q)
theorem PSs.imp{X:Cx}{e:List Stmt}{t t':TS}(h:PSs X e t)(k:∀σ H Q,t' Q σ H->t Q σ H):PSs X e t':=fun pins s σ H Q I q=>h pins s σ H Q I (k σ H Q q)
noncomputable abbrev DE(K:W.Frag)(Er:Str->Hp->Prop)(X:Cx)(e:Expr)(m:Env'->Mx D):Prop:=PE X e (rdG RE K Er m)
noncomputable abbrev DW(K:W.Frag)(Er:Str->Hp->Prop)(X:Cx)(e:Expr)(m:Env'->Mx D):Prop:=PE X e (rdG RW K Er m)
noncomputable abbrev DF(K:W.Frag)(Er:Str->Hp->Prop)(X:Cx)(e:Expr)(m:Env'->Mx PyData):Prop:=PE X e (rdG RF K Er m)
noncomputable abbrev DT(K:W.Frag)(Er:Str->Hp->Prop)(X:Cx)(e:Expr)(m:Env'->Mx Bool):Prop:=PT X e (rdG RT K Er m)
noncomputable abbrev DA(K:W.Frag)(Er:Str->Hp->Prop)(X:Cx)(es:List Expr)(m:Env'->Mx (List D)):Prop:=PA X es (rdG RA K Er m)
noncomputable abbrev DAW(K:W.Frag)(Er:Str->Hp->Prop)(X:Cx)(es:List Expr)(m:Env'->Mx (List D)):Prop:=PA X es (rdG RAW K Er m)
section
variable{K:W.Frag}{Er:Str->Hp->Prop}{X:Cx}{e a b:Expr}{m ma mb:Env'->Mx D}
theorem DE.w(h:DE K Er X e m):DW K Er X e m:=h.imp fun σ H Q ⟨g,ow,ρ,n,f,q⟩=>⟨g,ow,ρ,n,f,q.imp (fun _ _ _ r=>r.one fun _ z=>z.elim .inl fun z=>.inr (.inl z)) fun _ _ z=>z⟩
noncomputable def mP(m:Env'->Mx PyData):Env'->Mx D:=fun ρ=>m ρ >>= fun x=>pure (.p x)
theorem DF.de{mf:Env'->Mx PyData}(h:DF K Er X e mf):DE K Er X e (mP mf):=h.imp fun σ H Q ⟨g,ow,ρ,n,f,q⟩=>⟨g,ow,ρ,n,f,by
 refine AftG.bind q fun x n' v H1 k1 t1 r1 c=>?_;obtain⟨a,rfl,ha,_,d⟩:=r1;have hn:¬g.S ow a:=fun z=>f.dom a z ha;refine c (R3:=fun _ H2 b u=>Rep g (g.S ow) H2 b u) (fun _ _ _ z=>z) (.ref a) H1 (Kp.refl _ _) t1 ?_;show DatS _ _ x _;cases x<;>simp only[Dat1,DatS]at d |-
 case list=>obtain⟨b,xs,e,_,h1,h2⟩:=d;cases e;exact⟨a,xs,rfl,hn,h1,DatsS.kp (Kp.refl _ _) (fun _ z=>.inl (.inl z)) h2⟩
 case dict=>obtain⟨b,xs,e,_,h1,h2⟩:=d;cases e;exact⟨a,xs,rfl,hn,h1,DctS.kp (Kp.refl _ _) (fun _ z=>.inl (.inl z)) h2⟩
 case tuple=>obtain⟨b,xs,e,h1,h2⟩:=d;exact⟨b,xs,e,h1,DatsS.kp (Kp.refl _ _) (fun _ z=>.inl (.inl z)) h2⟩
 all_goals cases d⟩
end
end L2
namespace L2
open PySem PySem.Spec PyProof.Rows
theorem y3{n:Nat}(h:n<=1000000):n<=sizeLine:=by rw[sizeLine_eq];omega
theorem OpR.imp{X:Cx}{f:Value->Value->Sem Value}{r r':R2}(h:OpR X f r)(k:∀x y H Q,r' x y H Q->r x y H Q):OpR X f r':=fun pins s σ H x y v u Q I rx ry q=>h pins s σ H x y v u Q I rx ry (k x y H Q q)
theorem IxR.imp{X:Cx}{r r':R2}(h:IxR X r)(k:∀x y H Q,r' x y H Q->r x y H Q):IxR X r':=fun va sl pins s σ H x y v u Q I rx ry q=>h va sl pins s σ H x y v u Q I rx ry (k x y H Q q)
theorem CallR.imp{X:Cx}{f:Value}{r r':List V->Hp->VK->Prop}(h:CallR X f r)(k:∀xs H Q,r' xs H Q->r xs H Q):CallR X f r':=fun pins s σ H xs us Q I rx q=>h pins s σ H xs us Q I rx (k xs H Q q)
theorem DatsS.length{S:Addr->Prop}{H:Hp}:∀{ds:List PyData} {xs:List V},DatsS S H ds xs->ds.length=xs.length
 | [],_,h=>by simp only[DatsS]at h;subst h;rfl
 | _::_,_,h=>by
  simp only[DatsS]at h;obtain⟨x,r,rfl,_,h2⟩:=h;simp[DatsS.length h2]
theorem DatsS.append{S:Addr->Prop}{H:Hp}:∀{ds es:List PyData} {xs ys:List V},DatsS S H ds xs->DatsS S H es ys->DatsS S H (ds++es) (xs++ys)
 | [],_,_,_,h,k=>by simp only[DatsS]at h;subst h;exact k
 | _::_,_,_,_,h,k=>by
  simp only[DatsS]at h;obtain⟨x,r,rfl,h1,h2⟩:=h;show DatsS S H (_::(_++_)) _;simp only[DatsS];exact⟨x,_,rfl,h1,DatsS.append h2 k⟩
theorem DatsS.get{S:Addr->Prop}{H:Hp}:∀{ds:List PyData} {xs:List V} {i:Nat} {d:PyData},DatsS S H ds xs->ds[i]?=some d->∃x,xs[i]?=some x/\DatS S H d x
 | [],_,_,_,_,e=>by simp at e
 | _::_,_,0,_,h,e=>by
  simp only[DatsS]at h;obtain⟨x,r,rfl,h1,h2⟩:=h;simp at e;subst e;exact⟨x,rfl,h1⟩
 | _::_,_,i+1,_,h,e=>by
  simp only[DatsS]at h;obtain⟨x,r,rfl,h1,h2⟩:=h;simpa using DatsS.get (i:=i) h2 (by simpa using e)
theorem DatsS.cons{S:Addr->Prop}{H:Hp}{d:PyData}{ds:List PyData}{x:V}{xs:List V}(h:DatS S H d x)(k:DatsS S H ds xs):DatsS S H (d::ds) (x::xs):=by
 simp only[DatsS];exact⟨x,xs,rfl,h,k⟩
theorem DatsS.nil{S:Addr->Prop}{H:Hp}:DatsS S H [] []:=by simp only[DatsS]
section
variable{K:W.Frag}{Er:Str->Hp->Prop}{X:Cx}{e a b c:Expr}{m ma mb mc:Env'->Mx D}{pos:Pos}
noncomputable def slW:Option (Option Sl)->Option D
 | some (some (Sl.val d))=>some d
 | some (some (Sl.own x))=>some (.p x)
 | _=>none
noncomputable def slV:Option (Option Sl)->Option D
 | some (some (Sl.val d))=>some d
 | _=>none
noncomputable def mVar(i:Nat):Env'->Mx D:=fun ρ=>Mx.opt (slW ρ[i]?)
noncomputable def mVal(i:Nat):Env'->Mx D:=fun ρ=>Mx.opt (slV ρ[i]?)
theorem z7{i:Nat}(h:PE X e (tVar i)):DW K Er X e (mVar i):=h.imp fun σ H Q ⟨g,ow,ρ,n,f,q⟩=>by
 unfold mVar at q;cases e:ρ[i]? with
 | none=>rw[e]at q;exact q.elim
 | some o=>
  cases o with
  | none=>rw[e]at q;exact q.elim
  | some sl=>
   rw[e]at q;cases sl with
   | val d=>
    obtain⟨v,e1,r⟩:=f.val _ _ e;exact⟨v,e1,q v H (Kp.refl _ _) f.twn (r.one fun _ z=>z.elim .inl fun z=>.inr (.inl z))⟩
   | own x=>
    obtain⟨a,_,e1,r⟩:=f.own _ _ e;exact⟨_,e1,q _ H (Kp.refl _ _) f.twn r⟩
   | deep kl=>exact q.elim
theorem zB{i:Nat}(h:PE X e (tVar i)):DE K Er X e (mVal i):=h.imp fun σ H Q ⟨g,ow,ρ,n,f,q⟩=>by
 unfold mVal at q;cases e:ρ[i]? with
 | none=>rw[e]at q;exact q.elim
 | some o=>
  cases o with
  | none=>rw[e]at q;exact q.elim
  | some sl=>
   rw[e]at q;cases sl with
   | val d=>
    obtain⟨v,e1,r⟩:=f.val _ _ e;exact⟨v,e1,q v H (Kp.refl _ _) f.twn r⟩
   | own x=>exact q.elim
   | deep kl=>exact q.elim
noncomputable def mC(x:PyData):Env'->Mx D:=fun _=>pure (.p x)
theorem de_c{v:V}{x:PyData}(h:PE X e (tC v))(hx:∀S H,DatS S H x v):DE K Er X e (mC x):=h.imp fun σ H Q ⟨g,ow,ρ,n,f,q⟩=>q v H (Kp.refl _ _) f.twn (hx _ _)
theorem zD{i j pos}:DE K Er X (.Constant (.int i) j pos) (mC (.int i)):=de_c xQ fun _ _=>by simp only[DatS]
theorem z1I{i j pos}:DE K Er X (.Constant (.bool i) j pos) (mC (.bool i)):=de_c z8W fun _ _=>by simp only[DatS]
theorem yC{j pos}:DE K Er X (.Constant .none j pos) (mC .none):=de_c z87 fun _ _=>by simp only[DatS]
theorem z6z{i:Int}(h:PE X e (tC (.int i))):DE K Er X e (mC (.int i)):=de_c h fun _ _=>by simp only[DatS]
noncomputable def onP{α:Type}(f:PyData->Option α):D->Option α
 | .p x=>f x
 | _=>none
noncomputable def onP2{α:Type}(f:PyData->PyData->Option α):D->D->Option α
 | .p x,.p y=>f x y
 | _,_=>none
noncomputable def onB:D->Option Bool
 | .p (.bool b)=>some b
 | _=>none
theorem zc{α:Type}{f:PyData->Option α}{d:D}{r:α}(h:onP f d=some r):∃x,d=.p x/\f x=some r:=by
 cases d with
 | p x=>exact⟨x,rfl,h⟩
 | _=>cases h
theorem zo{α:Type}{f:PyData->PyData->Option α}{d e:D}{r:α}(h:onP2 f d e=some r):∃x y,d=.p x/\e=.p y/\f x y=some r:=by
 cases d with
 | p x=>
  cases e with
  | p y=>exact⟨x,y,rfl,rfl,h⟩
  | _=>cases h
 | _=>cases h
theorem z2M{d:D}{b:Bool}(h:onB d=some b):d=.p (.bool b):=by
 cases d with
 | p x=>cases x<;>simp only[onB]at h<;>cases h;rfl
 | _=>cases h
noncomputable def mBin(f:PyData->PyData->Option PyData)(a b:Env'->Mx D):Env'->Mx D:=fun ρ=>a ρ >>= fun x=>b ρ >>= fun y=>Mx.opt ((onP2 f x y).map D.p)
theorem yk{α β γ:Type}{R:Hp->Hp->β->γ->Prop}{g:Gh}{H:Hp}{o:Option α}{k:α->Mx β}{n:Nat}{Q:γ->Hp->Prop}(h:AftG R g Er H ((Mx.opt o >>= k) n) Q):∃a,o=some a/\AftG R g Er H (k a n) Q:=by
 cases o with
 | none=>exact h.elim
 | some a=>exact⟨a,rfl,h⟩
theorem wU{α γ:Type}{R:Hp->Hp->α->γ->Prop}{g:Gh}{H:Hp}{o:Option α}{n:Nat}{Q:γ->Hp->Prop}(h:AftG R g Er H (Mx.opt o n) Q):∃a,o=some a/\∀v H',Kp g.T H H'->Twn g H' n->R H H' a v->Q v H':=by
 cases o with
 | none=>exact h.elim
 | some a=>exact⟨a,rfl,h⟩
noncomputable def rD2(f:PyData->PyData->Option PyData):R2:=fun x y H Q=>∃S d e r,(∀a,S a->H a≠none)/\Dat1 (fun _=>False) S H d x/\Dat1 (fun _=>False) S H e y/\f d e=some r/\∀v H',Same H H'->DatS S H' r v->Q v H'
theorem Same.kp{g:Gh}{H H':Hp}(s:Same H H'):Kp g.T H H':=fun b o h _=>s b o h
theorem Same.twn{g:Gh}{H H':Hp}{n:Nat}(s:Same H H')(t:Twn g H n):Twn g H' n:=fun a e=>s _ _ (t a e)
theorem Rep1.kp{g:Gh}{S:Addr->Prop}{H H':Hp}{d:D}{v:V}(k:Kp g.T H H')(hT:∀a,g.U a->S a)(h:Rep1 g S H d v):Rep1 g S H' d v:=by
 cases d with
 | p x=>exact Dat1.kp k (fun a z=>.inr z) hT h
 | scr=>exact h
 | town=>exact h
 | fn=>exact h
 | exc a C=>exact⟨h.1,h.2.1,k _ _ h.2.2 (.inl fun z=>h.2.1 (hT a (.inr z)))⟩
theorem Gh.ts{g:Gh}{ow:Ix->Option Addr}:∀a,g.T a->g.S ow a:=fun _ z=>.inr (.inl z)
theorem Gh.us{g:Gh}{ow:Ix->Option Addr}:∀a,g.U a->g.S ow a:=fun _ z=>z.elim .inl fun z=>.inr (.inl z)
theorem xj{g:Gh}{H H1:Hp}{n:Nat}(k:Kp g.T H H1)(t:Twn g H1 n){b:Addr}(h:H1 b=none):H b=none:=by
 cases z:H b with
 | none=>rfl
 | some o=>
  by_cases hT:g.aT=some b
  ·rw[t b hT]at h;cases h
  ·rw[k b o z (.inl hT)]at h;cases h
theorem xu:∀(g:Gh) (S:Addr->Prop) (H H1 H2:Hp) (a:PyData) (v:V) (n:Nat),Kp g.T H H1->Twn g H1 n->RF g S H1 H2 a v->RF g S H H2 a v:=fun g S H H1 H2 a v n k t ⟨b,e,hb,d⟩=>⟨b,e,xj k t hb,d⟩
theorem rd2{α β:Type}{R':RG α β}{f:D->D->Mx α}{σ:St}{H:Hp}{Q:β->Hp->Prop}{Z:V->V->Hp->Prop}
  (h:rdG R' K Er (fun ρ=>ma ρ >>= fun x=>mb ρ >>= fun y=>f x y) σ H Q)
  (hR':∀g S H H1 H2 a v n,Kp g.T H H1->Twn g H1 n->R' g S H1 H2 a v->R' g S H H2 a v)
  (k:∀g ow ρ n x y v u H2,Frm K g ow ρ n σ H2->Rep1 g (g.S ow) H2 x v->Rep1 g (g.S ow) H2 y u->AftG (R' g (g.S ow)) g Er H2 (f x y n) Q->Z v u H2) :
  rdG RW K Er ma σ H fun v H1=>rdG RW K Er mb σ H1 fun u H2=>Z v u H2:=by
 obtain⟨g,ow,ρ,n,fr,q⟩:=h;refine⟨g,ow,ρ,n,fr,?_⟩;refine AftG.bind q fun x n1 v H1 k1 t1 r1 c1=>?_;have fr1:=fr.kp k1 t1;refine⟨g,ow,ρ,n1,fr1,?_⟩;refine AftG.bind (c1 (R3:=R' g (g.S ow)) fun H2 b u r=>hR' _ _ _ _ _ _ _ _ k1 t1 r) fun y n2 u H2 k2 t2 r2 c2=>?_;exact k g ow ρ n2 x y v u H2 (fr1.kp k2 t2) (Rep1.kp k2 Gh.us r1) r2 (c2 (R3:=R' g (g.S ow)) fun H3 b u r=>hR' _ _ _ _ _ _ _ _ k2 t2 r)
theorem rd1{α β γ δ:Type}{R:RG γ δ}{R':RG α β}{m:Env'->Mx γ}{f:Env'->γ->Mx α}{σ:St}{H:Hp}{Q:β->Hp->Prop}{Z:δ->Hp->Prop}
  (h:rdG R' K Er (fun ρ=>m ρ >>= f ρ) σ H Q)
  (hR':∀g S H H1 H2 a v n,Kp g.T H H1->Twn g H1 n->R' g S H1 H2 a v->R' g S H H2 a v)
  (k:∀g ow ρ n x v H0 H2,Frm K g ow ρ n σ H2->Kp g.T H0 H2->R g (g.S ow) H0 H2 x v->AftG (R' g (g.S ow)) g Er H2 (f ρ x n) Q->Z v H2) :
  rdG R K Er m σ H Z:=by
 obtain⟨g,ow,ρ,n,fr,q⟩:=h;refine⟨g,ow,ρ,n,fr,?_⟩;refine AftG.bind q fun x n1 v H1 k1 t1 r1 c1=>?_;exact k g ow ρ n1 x v H H1 (fr.kp k1 t1) k1 r1 (c1 (R3:=R' g (g.S ow)) fun H2 b u r=>hR' _ _ _ _ _ _ _ _ k1 t1 r)
theorem xB{g:Gh}{S:Addr->Prop}{H:Hp}{o:Option PyData}{n:Nat}{Q:VK}(t:Twn g H n)(h:AftG (RE g S) g Er H (Mx.opt (o.map D.p) n) Q):∃r,o=some r/\∀v H',Same H H'->DatS S H' r v->Q v H':=by
 cases o with
 | none=>exact h.elim
 | some r=>exact⟨r,rfl,fun v H' s d=>h v H' s.kp (s.twn t) d⟩
theorem zm{op:Operator}{f:PyData->PyData->Option PyData}(ho:OpR X (binaryOp op) (rD2 f))(ha:DW K Er X a ma)(hb:DW K Er X b mb):DE K Er X (.BinOp a op b pos) (mBin f ma mb):=
 (z4q ho ha hb).imp fun σ H Q h=>rd2 (Z:=fun v u H2=>rD2 f v u H2 Q) h (fun _ _ _ _ _ _ _ _ _ _ r=>r) fun g ow ρ n x y v u H2 fr r1 r2 q=>by
  obtain⟨r,e,q2⟩:=xB fr.twn q;obtain⟨x,y,rfl,rfl,e⟩:=zo e;exact⟨g.S ow,x,y,r,fr.dom,Dat1.weak r1,Dat1.weak r2,e,q2⟩
theorem y6{op:CmpOp}{f:PyData->PyData->Option PyData}(ho:OpR X (compareOp op) (rD2 f))(ha:DW K Er X a ma)(hb:DW K Er X b mb)(hm:behindInMarks op b=false):DE K Er X (.Compare a [op] [b] pos) (mBin f ma mb):=
 (z6s ho ha hb hm).imp fun σ H Q h=>rd2 (Z:=fun v u H2=>rD2 f v u H2 Q) h (fun _ _ _ _ _ _ _ _ _ _ r=>r) fun g ow ρ n x y v u H2 fr r1 r2 q=>by
  obtain⟨r,e,q2⟩:=xB fr.twn q;obtain⟨x,y,rfl,rfl,e⟩:=zo e;exact⟨g.S ow,x,y,r,fr.dom,Dat1.weak r1,Dat1.weak r2,e,q2⟩
end
theorem Same.new{H:Hp}{p:Addr}{o:HO}(h:H p=none):Same H (upd H p o):=fun b x e=>by rw[z9 (zL e h)];exact e
theorem DatsS.same{S:Addr->Prop}{H H':Hp}(s:Same H H'){ds:List PyData}{xs:List V}(h:DatsS S H ds xs):DatsS S H' ds xs:=DatsS.kp (Kp.of s) (fun _ z=>.inl z) h
theorem u4{S:Addr->Prop}{H:Hp}{p:Addr}{ds:List PyData}{xs:List V}(h:H p=some (.tup xs))(k:DatsS S H ds xs):DatS S H (.tuple ds) (.ref p):=by
 simp only[DatS];exact⟨p,xs,rfl,h,k⟩
theorem z1y{S:Addr->Prop}{H:Hp}{p:Addr}{ds:List PyData}{xs:List V}(hp:¬S p)(h:H p=some (.lst xs))(k:DatsS S H ds xs):DatS S H (.list ds) (.ref p):=by
 simp only[DatS];exact⟨p,xs,rfl,hp,h,k⟩
theorem z2E{S:Addr->Prop}{H:Hp}{p:Addr}{ds:List PyData}{xs:List V}(h:H p=none)(k:DatsS S H ds xs):DatS S (upd H p (.tup xs)) (.tuple ds) (.ref p):=u4 z6 (k.same (Same.new h))
theorem z0W{S:Addr->Prop}{H:Hp}{p:Addr}{ds:List PyData}{xs:List V}(hS:∀a,S a->H a≠none)(h:H p=none)(k:DatsS S H ds xs):DatS S (upd H p (.lst xs)) (.list ds) (.ref p):=
 z1y (fun z=>hS p z h) z6 (k.same (Same.new h))
noncomputable abbrev N0:Addr->Prop:=fun _=>False
theorem zY{T S:Addr->Prop}{H:Hp}{i:Int}{x:V}(h:Dat1 T S H (.int i) x):x=.int i:=by simpa only[Dat1,DatS]using h
theorem z1M{T S:Addr->Prop}{H:Hp}{i:Str}{x:V}(h:Dat1 T S H (.str i) x):x=.str i:=by simpa only[Dat1,DatS]using h
theorem z5N{T S:Addr->Prop}{H:Hp}{i:Bool}{x:V}(h:Dat1 T S H (.bool i) x):x=.bl i:=by simpa only[Dat1,DatS]using h
theorem z3p{T S:Addr->Prop}{H:Hp}{x:V}(h:Dat1 T S H .none x):x=.non:=by simpa only[Dat1,DatS]using h
theorem yF{T S:Addr->Prop}{H:Hp}{ds:List PyData}{x:V}(h:Dat1 T S H (.tuple ds) x):∃a xs,x=.ref a/\H a=some (.tup xs)/\DatsS S H ds xs:=by simpa only[Dat1,DatS]using h
theorem yI{T S:Addr->Prop}{H:Hp}{ds:List PyData}{x:V}(h:Dat1 T S H (.list ds) x):∃a xs,x=.ref a/\H a=some (.lst xs)/\DatsS S H ds xs:=by
 simp only[Dat1]at h;obtain⟨a,xs,e,_,h1,h2⟩:=h;exact⟨a,xs,e,h1,h2⟩
theorem z1J{T S:Addr->Prop}{H:Hp}{ds:List (PyData×PyData)}{x:V}(h:Dat1 T S H (.dict ds) x):∃a ks,x=.ref a/\DctAt H a ks/\DctS S H ds ks:=by
 simp only[Dat1]at h;obtain⟨a,xs,e,_,h1,h2⟩:=h;exact⟨a,xs,e,h1,h2⟩
theorem di{S:Addr->Prop}{H:Hp}{i:Int}:DatS S H (.int i) (.int i):=by simp only[DatS]
theorem db{S:Addr->Prop}{H:Hp}{i:Bool}:DatS S H (.bool i) (.bl i):=by simp only[DatS]
theorem rb{g:Gh}{S:Addr->Prop}{H:Hp}{i:Bool}:Rep g S H (.p (.bool i)) (.bl i):=(db:DatS S H (.bool i) (.bl i))
theorem dn{S:Addr->Prop}{H:Hp}:DatS S H .none .non:=by simp only[DatS]
theorem dstr{S:Addr->Prop}{H:Hp}{i:Str}:DatS S H (.str i) (.str i):=by simp only[DatS]
noncomputable def lim:Nat:=1000000
noncomputable def fAdd:PyData->PyData->Option PyData
 | .int i,.int j=>some (.int (i+j))
 | .tuple xs,.tuple ys=>if xs.length+ys.length<=lim then some (.tuple (xs++ys))else none
 | .list xs,.list ys=>if xs.length+ys.length<=lim then some (.list (xs++ys))else none
 | .str x,.str y=>if x.length+y.length<=lim then some (.str (x++y))else none
 | _,_=>none
noncomputable def fSub:PyData->PyData->Option PyData
 | .int i,.int j=>some (.int (i - j))
 | _,_=>none
noncomputable def fMod:PyData->PyData->Option PyData
 | .int i,.int j=>if 0<j then some (.int (i % j))else none
 | _,_=>none
noncomputable def fPow:PyData->PyData->Option PyData
 | .int i,.int j=>if 0<=j/\j<=1000/\i.natAbs<2 ^ 64 then some (.int (i ^ j.toNat))else none
 | _,_=>none
noncomputable def fMul:PyData->PyData->Option PyData
 | .int i,.int j=>if (-(2 ^ 64)<i/\i<2 ^ 64)\/(-(2 ^ 64)<j/\j<2 ^ 64)then some (.int (i*j))else none
 | .tuple xs,.int k=>if 0<k/\k<1000000/\xs.length*k.toNat<=lim then some (.tuple (List.replicate k.toNat xs).flatten)else none
 | .list xs,.int k=>if 0<=k/\k<1000000/\xs.length*k.toNat<=lim then some (.list (List.replicate k.toNat xs).flatten)else none
 | _,_=>none
theorem DatsS.rep{S:Addr->Prop}{H:Hp}{ds:List PyData}{xs:List V}(h:DatsS S H ds xs):∀k,DatsS S H (List.replicate k ds).flatten (List.replicate k xs).flatten
 | 0=>.nil
 | k+1=>by
  rw[List.replicate_succ,List.replicate_succ,List.flatten_cons,List.flatten_cons];exact h.append (DatsS.rep h k)
section
variable{X:Cx}
theorem yc:OpR X (binaryOp .Add) (rD2 fAdd):=(op_add.or (op_catTT.or (op_cat.or z33))).imp fun x y H Q ⟨S,d,e,r,hS,h1,h2,hf,q⟩=>by
 cases d<;>cases e<;>simp only[fAdd]at hf<;>try (cases hf;done)
 ·cases hf;exact .inl ⟨_,_,zY h1,zY h2,q _ _ (Same.refl _) di⟩
 ·split at hf
  next hl=>
   cases hf;exact .inr (.inr (.inr ⟨_,_,z1M h1,z1M h2,y3 hl,q _ _ (Same.refl _) dstr⟩))
  next=>cases hf
 ·split at hf
  next hl=>
   cases hf;obtain⟨a,xs,e1,g1,k1⟩:=yI h1;obtain⟨b,ys,e2,g2,k2⟩:=yI h2;exact .inr (.inr (.inl ⟨a,b,xs,ys,e1,e2,g1,g2,y3 (by rw[<-k1.length,<-k2.length];exact hl),fun p hp=>q _ _ (Same.new hp) (z0W hS hp (k1.append k2))⟩))
  next=>cases hf
 ·split at hf
  next hl=>
   cases hf;obtain⟨a,xs,e1,g1,k1⟩:=yF h1;obtain⟨b,ys,e2,g2,k2⟩:=yF h2;exact .inr (.inl ⟨a,b,xs,ys,e1,e2,g1,g2,y3 (by rw[<-k1.length,<-k2.length];exact hl),fun p H' s hp=>q _ _ s (u4 hp ((k1.append k2).same s))⟩)
  next=>cases hf
theorem z0J:OpR X (binaryOp .Sub) (rD2 fSub):=op_sub.imp fun x y H Q ⟨S,d,e,r,hS,h1,h2,hf,q⟩=>by
 cases d<;>cases e<;>simp only[fSub]at hf<;>try (cases hf;done)
 cases hf;exact⟨_,_,zY h1,zY h2,q _ _ (Same.refl _) di⟩
theorem uB:OpR X (binaryOp .Mod) (rD2 fMod):=op_mod.imp fun x y H Q ⟨S,d,e,r,hS,h1,h2,hf,q⟩=>by
 cases d<;>cases e<;>simp only[fMod]at hf<;>try (cases hf;done)
 split at hf
 next hl=>cases hf;exact⟨_,_,zY h1,zY h2,hl,q _ _ (Same.refl _) di⟩
 next=>cases hf
theorem z6m:OpR X (binaryOp .Pow) (rD2 fPow):=op_pow.imp fun x y H Q ⟨S,d,e,r,hS,h1,h2,hf,q⟩=>by
 cases d<;>cases e<;>simp only[fPow]at hf<;>try (cases hf;done)
 split at hf
 next hl=>cases hf;exact⟨_,_,zY h1,zY h2,⟨hl.1,by omega,hl.2.2⟩,q _ _ (Same.refl _) di⟩
 next=>cases hf
theorem z21:OpR X (binaryOp .Mult) (rD2 fMul):=(op_mul.or (op_repTT.or z6I)).imp fun x y H Q ⟨S,d,e,r,hS,h1,h2,hf,q⟩=>by
 cases d<;>cases e<;>simp only[fMul]at hf<;>try (cases hf;done)
 ·split at hf
  next hl=>cases hf;exact .inl ⟨_,_,zY h1,zY h2,hl,q _ _ (Same.refl _) di⟩
  next=>cases hf
 ·split at hf
  next hl=>
   cases hf;obtain⟨a,xs,e1,g1,k1⟩:=yI h1;exact .inr (.inr ⟨a,_,xs,e1,zY h2,g1,by omega,by omega,y3 (by rw[<-k1.length];exact hl.2.2),fun p hp=>q _ _ (Same.new hp) (z0W hS hp (k1.rep _))⟩)
  next=>cases hf
 ·split at hf
  next hl=>
   cases hf;obtain⟨a,xs,e1,g1,k1⟩:=yF h1;exact .inr (.inl ⟨a,_,xs,e1,zY h2,g1,hl.1,hl.2.1,y3 (by rw[<-k1.length];exact hl.2.2),fun p H' s hp=>q _ _ s (u4 hp ((k1.rep _).same s))⟩)
  next=>cases hf
noncomputable def zh:List PyData->Option (List Int)
 | []=>some []
 | .int i::r=>(zh r).map (i::·)
 | _=>none
theorem y9:∀{ds:List PyData} {ns:List Int},zh ds=some ns->ds=ns.map PyData.int
 | [],ns,h=>by simp only[zh]at h;cases h;rfl
 | d::r,ns,h=>by
  cases d<;>simp only[zh]at h<;>try (cases h;done)
  cases e:zh r with
  | none=>rw[e]at h;cases h
  | some ms=>rw[e]at h;cases h;rw[List.map_cons,y9 e]
theorem DatsS.ints{S:Addr->Prop}{H:Hp}:∀{ns:List Int} {xs:List V},DatsS S H (ns.map PyData.int) xs->xs=ns.map V.int
 | [],xs,h=>by simpa only[List.map_nil,DatsS]using h
 | n::ns,xs,h=>by
  simp only[List.map_cons,DatsS]at h;obtain⟨x,r,rfl,h1,h2⟩:=h;simp only[DatS]at h1;subst h1;rw[List.map_cons,DatsS.ints h2]
theorem z1P{S:Addr->Prop}{H:Hp}:∀(ns:List Int),DatsS S H (ns.map PyData.int) (ns.map V.int)
 | []=>.nil
 | _::ns=>.cons di (z1P ns)
noncomputable def fLt:PyData->PyData->Option PyData
 | .int i,.int j=>some (.bool (decide (i<j)))
 | .tuple xs,.tuple ys=>match zh xs,zh ys with
  | some ns,some ms=>some (.bool (HT.lexLt ns ms))
  | _,_=>none
 | _,_=>none
noncomputable def fCmp(p:Int->Int->Bool):PyData->PyData->Option PyData
 | .int i,.int j=>some (.bool (p i j))
 | _,_=>none
theorem z6L(hu:X.A.units<cLine):OpR X (compareOp .Lt) (rD2 fLt):=(op_lt.or (z82 hu)).imp fun x y H Q ⟨S,d,e,r,hS,h1,h2,hf,q⟩=>by
 cases d<;>cases e<;>simp only[fLt]at hf<;>try (cases hf;done)
 ·cases hf;exact .inl ⟨_,_,zY h1,zY h2,q _ _ (Same.refl _) db⟩
 ·split at hf
  next ns ms e1 e2=>
   cases hf;obtain⟨a,xs,f1,g1,k1⟩:=yF h1;obtain⟨b,ys,f2,g2,k2⟩:=yF h2;rw[y9 e1]at k1;rw[y9 e2]at k2;rw[k1.ints]at g1;rw[k2.ints]at g2;exact .inr ⟨a,b,ns,ms,f1,f2,SqT.of g1,SqT.of g2,q _ _ (Same.refl _) db⟩
  next=>cases hf
theorem z1X{f:Value->Value->Sem Value}{p:Int->Int->Bool}(h:OpR X f (rI0 fun i j=>.bl (p i j))):OpR X f (rD2 (fCmp p)):=h.imp fun x y H Q ⟨S,d,e,r,hS,h1,h2,hf,q⟩=>by
 cases d<;>cases e<;>simp only[fCmp]at hf<;>try (cases hf;done)
 cases hf;exact⟨_,_,zY h1,zY h2,q _ _ (Same.refl _) db⟩
mutual
theorem DatS.datV{S:Addr->Prop}{H:Hp}:∀{d:PyData} {v:V},d.canLay0=true->DatS S H d v->DatV H d v
 | .none,_,_,h=>by simp only[DatS,DatV]at h |-;exact h
 | .bool _,_,_,h=>by simp only[DatS,DatV]at h |-;exact h
 | .int _,_,_,h=>by simp only[DatS,DatV]at h |-;exact h
 | .str _,_,_,h=>by simp only[DatS,DatV]at h |-;exact h
 | .list ds,_,c,h=>by
  simp only[DatS,DatV]at h |-;obtain⟨a,xs,e,_,h1,h2⟩:=h;exact⟨a,xs,e,h1,DatsS.datV (by simpa only[PyData.canLay0]using c) h2⟩
 | .tuple ds,_,c,h=>by
  simp only[DatS,DatV]at h |-;obtain⟨a,xs,e,h1,h2⟩:=h;exact⟨a,xs,e,h1,DatsS.datV (by simpa only[PyData.canLay0]using c) h2⟩
 | .dict _,_,c,_=>by simp[PyData.canLay0]at c
theorem DatsS.datV{S:Addr->Prop}{H:Hp}:∀{ds:List PyData} {xs:List V},PyData.canLayAll0 ds=true->DatsS S H ds xs->DatAll H ds xs
 | [],_,_,h=>by simp only[DatsS,DatAll]at h |-;exact h
 | _::_,_,c,h=>by
  simp only[DatsS,DatAll]at h |-;obtain⟨x,r,e,h1,h2⟩:=h;simp only[PyData.canLayAll0,Bool.and_eq_true]at c;exact⟨x,r,e,DatS.datV c.1 h1,DatsS.datV c.2 h2⟩
end
theorem Dat1.datV{T S:Addr->Prop}{H:Hp}{d:PyData}{v:V}(c:d.canLay0=true)(h:Dat1 T S H d v):DatV H d v:=by
 cases d<;>simp only[Dat1]at h
 case list ds=>
  obtain⟨a,xs,e,_,h1,h2⟩:=h;simp only[DatV];exact⟨a,xs,e,h1,DatsS.datV (by simpa only[PyData.canLay0]using c) h2⟩
 case dict=>simp[PyData.canLay0]at c
 all_goals exact DatS.datV c h
noncomputable def fEq(neg:Bool)(d e:PyData):Option PyData:=if d.canLay0=true/\e.canLay0=true/\min d.depth e.depth<=60 then some (.bool (if neg then !PyData.eqv d e else PyData.eqv d e))else none
theorem ul(hu:X.A.units+64<cLine):OpR X (compareOp .Eq) (rD2 (fEq false)):=(z7o hu).imp fun x y H Q ⟨S,d,e,r,hS,h1,h2,hf,q⟩=>by
 unfold fEq at hf;split at hf
 next c=>cases hf;exact⟨d,e,h1.datV c.1,h2.datV c.2.1,c.1,c.2.1,c.2.2,q _ _ (Same.refl _) db⟩
 next=>cases hf
theorem yl(hu:X.A.units+64<cLine):OpR X (compareOp .NotEq) (rD2 (fEq true)):=(z8J hu).imp fun x y H Q ⟨S,d,e,r,hS,h1,h2,hf,q⟩=>by
 unfold fEq at hf;split at hf
 next c=>cases hf;exact⟨d,e,h1.datV c.1,h2.datV c.2.1,c.1,c.2.1,c.2.2,q _ _ (Same.refl _) db⟩
 next=>cases hf
end
end L2
namespace L2
open PySem PySem.Spec PyProof.Rows
noncomputable def keyD:PyData->Option Key
 | .int i=>some (.inl i)
 | .str s=>some (.inr s)
 | _=>none
noncomputable def z2t:List PyData->Option (List Key)
 | []=>some []
 | d::r=>match keyD d,z2t r with
  | some k,some l=>some (k::l)
  | _,_=>none
theorem z6g{d:PyData}{k:Key}(h:keyD d=some k):d=kD k:=by
 cases d<;>simp only[keyD]at h<;>cases h<;>rfl
theorem wQ:∀{ds:List PyData} {ks:List Key},z2t ds=some ks->ds=ks.map kD
 | [],ks,h=>by simp only[z2t]at h;cases h;rfl
 | d::r,ks,h=>by
  simp only[z2t]at h;split at h
  next k l e1 e2=>cases h;rw[List.map_cons,z6g e1,wQ e2]
  next=>cases h
theorem z0j{S:Addr->Prop}{H:Hp}{k:Key}{v:V}(h:DatS S H (kD k) v):v=kV k:=by
 cases k<;>(simp only[kD,DatS]at h;exact h)
theorem z0a{S:Addr->Prop}{H:Hp}:∀{ks:List Key} {xs:List V},DatsS S H (ks.map kD) xs->xs=ks.map kV
 | [],xs,h=>by simpa only[List.map_nil,DatsS]using h
 | n::ns,xs,h=>by
  simp only[List.map_cons,DatsS]at h;obtain⟨x,r,rfl,h1,h2⟩:=h;rw[List.map_cons,z0j h1,z0a h2]
theorem z4r(a b:Key):PyData.eqv (kD a) (kD b)=decide (a=b):=by
 cases a<;>cases b<;>simp[kD,PyData.eqv]
 all_goals (rw[Bool.eq_iff_iff];simp)
theorem z4x:∀(a b:List Key),PyData.eqvAll (a.map kD) (b.map kD)=decide (a=b)
 | [],[]=>by simp[PyData.eqvAll]
 | [],_::_=>by simp[PyData.eqvAll]
 | _::_,[]=>by simp[PyData.eqvAll]
 | a::r,b::s=>by
  simp only[List.map_cons,PyData.eqvAll,z4r,z4x r s];rw[Bool.eq_iff_iff];simp
theorem z6E(a b:List Key):PyData.eqv (kT a) (kT b)=decide (a=b):=by
 simp only[kT,PyData.eqv];exact z4x a b
noncomputable def xK:PyData->Bool
 | .tuple _=>true
 | _=>false
noncomputable def xZ(kvs:List (PyData×PyData)):PyData->Bool
 | .tuple ds=>(z2t ds).isSome && kvs.all (fun kv=>xK kv.1) && !kvs.isEmpty
 | x=>(keyD x).isSome && kvs.all (fun kv=>!xK kv.1) && !kvs.isEmpty
noncomputable def yj(kvs:List (PyData×PyData))(x:PyData):Option PyData:=(kvs.find? fun kv=>PyData.eqv kv.1 x).map (·.2)
theorem DctS.find{S:Addr->Prop}{H:Hp}{x:PyData}{κ:Type}[DecidableEq κ]{j:κ->PyData}(hj:∀a b,PyData.eqv (j a) (j b)=decide (a=b)){k:κ}(hx:x=j k):
  ∀{kvs:List (PyData×PyData)} {l:List (κ×V)},DctS S H kvs (l.map fun kv=>(j kv.1,kv.2))->(∃d v,yj kvs x=some d/\valV l k=some v/\DatS S H d v)\/(yj kvs x=none/\valV l k=none)
 | [],[],_=>.inr ⟨rfl,rfl⟩
 | [],_::_,h=>by simp[DctS]at h
 | (c,d)::r,[],h=>by simp[DctS]at h
 | (c,d)::r,(q,v)::s,h=>by
  simp only[DctS,List.map_cons]at h;obtain⟨y,t,e,h1,h2⟩:=h;cases e;by_cases e:q=k
  ·refine .inl ⟨d,v,?_,wK e,h1⟩;unfold yj;rw[List.find?_cons,show PyData.eqv (j q) x=true by rw[hx,hj];exact decide_eq_true e];rfl
  ·have ih:=DctS.find hj hx h2;have e1:yj ((j q,d)::r) x=yj r x:=by
    unfold yj;rw[List.find?_cons,show PyData.eqv (j q) x=false by rw[hx,hj];exact decide_eq_false e]
   rw[e1,wP (p:=(q,v)) e];exact ih
theorem DGet.kR{H:Hp}{a:Addr}{kvs:List (Key×V)}{k:Key}(e:Rd H a (.dK kvs)):DGet H a (kV k) (valV kvs k):=.inl ⟨kvs,k,e,rfl,rfl⟩
theorem DGet.tR{H:Hp}{a b:Addr}{kvs:List (List Key×V)}{k:List Key}(e:Rd H a (.dT kvs))(eb:H b=some (.tup (k.map kV))):DGet H a (.ref b) (valV kvs k):=.inr ⟨kvs,k,b,e,rfl,eb,rfl⟩
theorem z3l{S:Addr->Prop}{H:Hp}{a:Addr}{ks:List (PyData×V)}{kvs:List (PyData×PyData)}{x:PyData}{y:V}(h1:DctAt H a ks)(h2:DctS S H kvs ks)(hx:DatS S H x y)(ok:xZ kvs x=true):
  (∃d v,yj kvs x=some d/\DGet H a y (some v)/\DatS S H d v)\/(yj kvs x=none/\DGet H a y none):=by
 have tk:∀{P:PyData->Bool} (hP:kvs.all (fun kv=>P kv.1)=true) (hn:kvs.isEmpty=false) {κ:Type} {j:κ->PyData} {l:List (κ×V)},ks=l.map (fun kv=>(j kv.1,kv.2))->∃c,P (j c)=true:=fun{P} hP hn {κ j l} e=>by
  subst e;cases kvs with
  | nil=>cases hn
  | cons p r=>
   cases l with
   | nil=>obtain⟨_,_⟩:=p;simp[DctS]at h2
   | cons q s=>
    obtain⟨p1,p2⟩:=p;simp only[DctS,List.map_cons]at h2;obtain⟨_,_,e,_⟩:=h2;cases e;rw[List.all_cons,Bool.and_eq_true]at hP;exact⟨q.1,hP.1⟩
 have plain:∀k:Key,x=kD k->kvs.all (fun kv=>!xK kv.1)=true->kvs.isEmpty=false->(∃d v,yj kvs x=some d/\DGet H a y (some v)/\DatS S H d v)\/(yj kvs x=none/\DGet H a y none):=fun k e hA hn=>by
  have ey:y=kV k:=by rw[e]at hx;exact z0j hx
  rcases h1 with ⟨l,g,rfl⟩ | ⟨l,g,e2⟩
  ·rcases DctS.find (κ:=Key) (j:=kD) z4r e h2 with ⟨d,v,f1,f2,f3⟩ | ⟨f1,f2⟩
   ·exact .inl ⟨d,v,f1,by rw[ey,<-f2];exact DGet.kR g,f3⟩
   ·exact .inr ⟨f1,by rw[ey,<-f2];exact DGet.kR g⟩
  ·obtain⟨c,hc⟩:=tk (P:=fun d=>!xK d) hA hn e2;simp[kT,xK]at hc
 cases x with
 | tuple ds=>
  simp only[xZ,Bool.and_eq_true,Bool.not_eq_true']at ok;obtain⟨⟨o1,o2⟩,o3⟩:=ok;obtain⟨k,ek⟩:=Option.isSome_iff_exists.mp o1;have ed:=wQ ek;simp only[DatS]at hx;obtain⟨b,xs,rfl,hb,hxs⟩:=hx;rw[ed]at hxs;rw[z0a hxs]at hb;rcases h1 with ⟨l,g,e2⟩ | ⟨l,g,rfl⟩
  ·obtain⟨c,hc⟩:=tk (P:=xK) o2 o3 e2;cases c<;>simp[kD,xK]at hc
  ·rcases DctS.find (κ:=List Key) (j:=kT) z6E (k:=k) (x:=.tuple ds) (by rw[ed];rfl) h2 with ⟨d,v,f1,f2,f3⟩ | ⟨f1,f2⟩
   ·exact .inl ⟨d,v,f1,by rw[<-f2];exact DGet.tR g hb,f3⟩
   ·exact .inr ⟨f1,by rw[<-f2];exact DGet.tR g hb⟩
 | int i=>
  simp only[xZ,Bool.and_eq_true,Bool.not_eq_true']at ok;exact plain (.inl i) rfl ok.1.2 ok.2
 | str i=>
  simp only[xZ,Bool.and_eq_true,Bool.not_eq_true']at ok;exact plain (.inr i) rfl ok.1.2 ok.2
 | none=>simp[xZ,keyD]at ok
 | bool _=>simp[xZ,keyD]at ok
 | list _=>simp[xZ,keyD]at ok
 | dict _=>simp[xZ,keyD]at ok
theorem Dat1.key{T S:Addr->Prop}{H:Hp}{kvs:List (PyData×PyData)}{x:PyData}{y:V}(h:Dat1 T S H x y)(ok:xZ kvs x=true):DatS S H x y:=by
 cases x<;>simp only[Dat1]at h<;>first | exact h | simp[xZ,keyD]at ok
noncomputable def fIn(neg:Bool):PyData->PyData->Option PyData
 | x,.list ds=>if x.canLay0=true/\PyData.canLayAll0 ds=true/\x.depth<=60 then some (.bool (if neg then !(ds.any fun y=>PyData.eqv y x)else ds.any fun y=>PyData.eqv y x))else none
 | x,.tuple ds=>if x.canLay0=true/\PyData.canLayAll0 ds=true/\x.depth<=60 then some (.bool (if neg then !(ds.any fun y=>PyData.eqv y x)else ds.any fun y=>PyData.eqv y x))else none
 | x,.dict kvs=>if xZ kvs x=true then some (.bool (if neg then !(yj kvs x).isSome else(yj kvs x).isSome))else none
 | _,_=>none
section
variable{X:Cx}
theorem z4a(hu:X.A.units+1<cLine):OpR X (compareOp .In) (fun y x H Q=>∃a o,x=.ref a/\DGet H a y o/\Q (.bl o.isSome) H):=by
 intro pins s σ H y x v u Q I ry rx h;obtain⟨a,o,rfl,g,q⟩:=h;obtain rfl:u=Value.ref a:=rx;exact d_in hu I g ry fun s3 I3=>⟨.bl o.isSome,H,I3,rfl,q⟩
theorem z0v(hu:X.A.units+1<cLine):OpR X (compareOp .NotIn) (fun y x H Q=>∃a o,x=.ref a/\DGet H a y o/\Q (.bl (!o.isSome)) H):=by
 intro pins s σ H y x v u Q I ry rx h;obtain⟨a,o,rfl,g,q⟩:=h;obtain rfl:u=Value.ref a:=rx;exact z6b hu I g ry fun s3 I3=>⟨.bl (!o.isSome),H,I3,rfl,q⟩
theorem z3a{neg:Bool}{x y:V}{H:Hp}{Q:VK}(h:rD2 (fIn neg) x y H Q):rInD neg x y H Q\/∃a o,y=.ref a/\DGet H a x o/\Q (.bl (if neg then !o.isSome else o.isSome)) H:=by
 obtain⟨S,d,e,r,hS,h1,h2,hf,q⟩:=h;cases e<;>simp only[fIn]at hf<;>try (cases hf;done)
 ·split at hf
  next c=>
   cases hf;obtain⟨a,xs,e1,g1,k1⟩:=yI h2;exact .inl ⟨d,_,h1.datV c.1,.inl (by simp only[DatV];exact⟨a,xs,e1,g1,k1.datV c.2.1⟩),c.1,c.2.1,c.2.2,q _ _ (Same.refl _) db⟩
  next=>cases hf
 ·split at hf
  next c=>
   cases hf;obtain⟨a,xs,e1,g1,k1⟩:=yF h2;exact .inl ⟨d,_,h1.datV c.1,.inr (by simp only[DatV];exact⟨a,xs,e1,g1,k1.datV c.2.1⟩),c.1,c.2.1,c.2.2,q _ _ (Same.refl _) db⟩
  next=>cases hf
 ·split at hf
  next c=>
   cases hf;obtain⟨a,ks,e1,g1,k1⟩:=z1J h2;rcases z3l g1 k1 (h1.key c) c with ⟨d',v,f1,f2,f3⟩ | ⟨f1,f2⟩
   ·rw[f1]at q;exact .inr ⟨a,_,e1,f2,q _ _ (Same.refl _) db⟩
   ·rw[f1]at q;exact .inr ⟨a,_,e1,f2,q _ _ (Same.refl _) db⟩
  next=>cases hf
theorem we(hu:X.A.units+64<cLine):OpR X (compareOp .In) (rD2 (fIn false)):=((z7a hu).or (z4a (by omega))).imp fun x y H Q h=>z3a h
theorem z3z(hu:X.A.units+64<cLine):OpR X (compareOp .NotIn) (rD2 (fIn true)):=((z4W hu).or (z0v (by omega))).imp fun x y H Q h=>z3a h
noncomputable def fIs(neg:Bool):PyData->PyData->Option PyData
 | .none,.none=>some (.bool (!neg))
 | _,.none=>some (.bool neg)
 | _,_=>none
theorem z7u{T S:Addr->Prop}{H:Hp}{d:PyData}{x:V}(h:Dat1 T S H d x):(d=.none/\x=.non)\/(d≠.none/\x≠.non):=by
 cases d<;>simp only[Dat1,DatS]at h
 case none=>exact .inl ⟨rfl,h⟩
 all_goals refine .inr ⟨(by intro z;cases z),?_⟩
 all_goals first
  | (subst h;intro z;cases z)
  | (obtain⟨_,_,e,_⟩:=h;subst e;intro z;cases z)
theorem z3V{neg:Bool}{x y:V}{H:Hp}{Q:VK}(h:rD2 (fIs neg) x y H Q):y=.non/\Q (.bl (if neg then !decide (x=.non)else decide (x=.non))) H:=by
 obtain⟨S,d,e,r,hS,h1,h2,hf,q⟩:=h;cases e
 case none=>
  refine⟨z3p h2,?_⟩;rcases z7u h1 with ⟨rfl,rfl⟩ | ⟨n1,n2⟩
  ·simp only[fIs]at hf;cases hf
   have:=q _ _ (Same.refl _) db;cases neg<;>simpa using this
  ·have hf':some (PyData.bool neg)=some r:=by
    cases d<;>first | exact hf | exact absurd rfl n1
   cases hf'
   have:=q _ _ (Same.refl _) db;cases neg<;>simpa[n2]using this
 all_goals (cases d<;>simp only[fIs]at hf<;>cases hf)
theorem wE:OpR X (compareOp .Is) (rD2 (fIs false)):=op_isN.imp fun x y H Q h=>z3V (neg:=false) h
theorem xk:OpR X (compareOp .IsNot) (rD2 (fIs true)):=op_notN.imp fun x y H Q h=>z3V (neg:=true) h
noncomputable def fIx:PyData->PyData->Option PyData
 | .list ds,.int i=>atI ds i
 | .tuple ds,.int i=>atI ds i
 | .dict kvs,x=>if xZ kvs x=true then yj kvs x else none
 | _,_=>none
theorem DatsS.at{S:Addr->Prop}{H:Hp}{ds:List PyData}{xs:List V}{i:Int}{d:PyData}(h:DatsS S H ds xs)(e:atI ds i=some d):∃v,atI xs i=some v/\DatS S H d v:=by
 unfold atI at e |-;rw[h.length]at e;cases q:ixN xs.length i with
 | none=>rw[q]at e;cases e
 | some j=>
  rw[q]at e;obtain⟨v,e1,e2⟩:=h.get (show ds[j]?=some d from e);exact⟨v,e1,e2⟩
theorem z72(hu:X.A.units+1<cLine):IxR X (fun x y H Q=>∃a v,x=.ref a/\DGet H a y (some v)/\Q v H):=by
 intro value slice pins s σ H x y o i Q I rx ry h hs;obtain⟨a,v,rfl,g,q⟩:=h;obtain rfl:o=Value.ref a:=rx;have hT:=z1m I g;have h₂:=z4g (E:=X.xe) (Q:=EP X pins σ Q) hu I g ry fun w' s3 I3 rw'=>⟨v,H,I3,rw',q⟩;unfold subscriptTail;refine wpAny_bind ?_;rw[getitemInPython_of_ne hT.not_modules];refine wpAny_bind (wpAny_specialOf hT PySem.F.slot_dict_getitem.lookup ?_);have fin:wpAny (model X.prog X.w) X.A (subscripted slice false (.ref a) i) (fun r s₃=>wpAny (model X.prog X.w) X.A (letTemporaryGo value (.ref a) r >>= fun _=>pure r) (EP X pins σ Q) X.xe s₃) X.xe s:=by
  rw[hs];exact wpAny_operating (wpAny_mono h₂ (fun r s₃ h₃=>wpAny_bind (wpAny_letTemporaryGo (wpAny_pure h₃))) fun _ _ x=>x)
 first
  | exact wpAny_pure (wpAny_bind fin)
  | exact wpAny_bind (wpAny_pure (wpAny_bind fin))
  | exact wpAny_bind fin
theorem ix_D(hu:X.A.units+1<cLine):IxR X (rD2 fIx):=(ix_list.or (ix_tup.or (z72 hu))).imp fun x y H Q ⟨S,d,e,r,hS,h1,h2,hf,q⟩=>by
 cases d<;>try (simp only[fIx]at hf;cases hf;done)
 case list ds=>
  cases e<;>simp only[fIx]at hf<;>try (cases hf;done)
  obtain⟨a,xs,e1,g1,k1⟩:=yI h1;obtain⟨v,e2,r2⟩:=k1.at hf;exact .inl ⟨a,xs,_,v,e1,zY h2,SqL.of g1,e2,q _ _ (Same.refl _) r2⟩
 case tuple ds=>
  cases e<;>simp only[fIx]at hf<;>try (cases hf;done)
  obtain⟨a,xs,e1,g1,k1⟩:=yF h1;obtain⟨v,e2,r2⟩:=k1.at hf;exact .inr (.inl ⟨a,xs,_,v,e1,zY h2,SqT.of g1,e2,q _ _ (Same.refl _) r2⟩)
 case dict kvs=>
  have hf':(if xZ kvs e=true then yj kvs e else none)=some r:=by cases e<;>exact hf
  split at hf'
  next c=>
   obtain⟨a,ks,e1,g1,k1⟩:=z1J h1;rcases z3l g1 k1 (h2.key c) c with ⟨d',v,f1,f2,f3⟩ | ⟨f1,f2⟩
   ·rw[f1]at hf';cases hf';exact .inr (.inr ⟨a,v,e1,f2,q _ _ (Same.refl _) f3⟩)
   ·rw[f1]at hf';cases hf'
  next=>cases hf'
end
section
variable{K:W.Frag}{Er:Str->Hp->Prop}{X:Cx}{e a b c:Expr}{es rest:List Expr}{m ma mb:Env'->Mx D}{mc mt:Env'->Mx Bool}{ms:Env'->Mx (List D)}{pos p2:Pos}
noncomputable def mUn(f:PyData->Option PyData)(m:Env'->Mx D):Env'->Mx D:=fun ρ=>m ρ >>= fun x=>Mx.opt ((onP f x).map D.p)
noncomputable def mIf{α:Type}(c:Env'->Mx Bool)(a b:Env'->Mx α):Env'->Mx α:=fun ρ=>c ρ >>= fun t=>if t=true then a ρ else b ρ
theorem z64{R:RG D V}{σ:St}{H:Hp}{Q:VK}(hR:∀g S H H1 H2 a v n,Kp g.T H H1->Twn g H1 n->R g S H1 H2 a v->R g S H H2 a v)(h:rdG R K Er (mIf mc ma mb) σ H Q):tIf (rdG RT K Er mc) (rdG R K Er ma) (rdG R K Er mb) σ H Q:=
 rd1 h hR fun g ow ρ n d v H0 H2 fr _ r q=>by
  cases r;cases d with
  | true=>exact ite_tt ⟨g,ow,ρ,n,fr,q⟩
  | false=>exact ite_ff ⟨g,ow,ρ,n,fr,q⟩
theorem z7r(hc:DT K Er X c mc)(ha:DE K Er X a ma)(hb:DE K Er X b mb):DE K Er X (.IfExp c a b pos) (mIf mc ma mb):=(z2d hc ha hb).imp fun σ H Q h=>z64 (fun _ _ _ _ _ _ _ _ _ _ r=>r) h
theorem z8p(hc:DT K Er X c mc)(ha:DW K Er X a ma)(hb:DW K Er X b mb):DW K Er X (.IfExp c a b pos) (mIf mc ma mb):=(z2d hc ha hb).imp fun σ H Q h=>z64 (fun _ _ _ _ _ _ _ _ _ _ r=>r) h
noncomputable def mAndV(a b:Env'->Mx D):Env'->Mx D:=fun ρ=>a ρ >>= fun x=>Mx.opt (onB x) >>= fun t=>if t=true then b ρ else pure (.p (.bool false))
theorem wW(ha:DW K Er X a ma)(hb:DE K Er X (.BoolOp .And (b::rest) pos) mb):DE K Er X (.BoolOp .And (a::b::rest) pos) (mAndV ma mb):=(z7I ha hb).imp fun σ H Q h=>rd1 h (fun _ _ _ _ _ _ _ _ _ _ r=>r) fun g ow ρ n d v H0 H2 fr _ r q=>by
 obtain⟨t,e,q2⟩:=yk q;have e1:=z2M e;subst e1;cases t with
 | true=>exact⟨true,z5N (Rep1.d1 r),ite_tt ⟨g,ow,ρ,n,fr,q2⟩⟩
 | false=>exact⟨false,z5N (Rep1.d1 r),ite_ff (q2 _ _ (Kp.refl _ _) fr.twn rb)⟩
theorem uf{op}(h:DE K Er X a m):DE K Er X (.BoolOp op [a] pos) m:=z8G h
noncomputable def truD:PyData->Option Bool
 | .none=>some false
 | .bool b=>some b
 | .int i=>some (i != 0)
 | .str y=>if y.length<=lim then some ((y.length:Int) != 0)else none
 | .list ds=>some (!ds.isEmpty)
 | .tuple ds=>some (!ds.isEmpty)
 | .dict _=>none
noncomputable def mTru(m:Env'->Mx D):Env'->Mx Bool:=fun ρ=>m ρ >>= fun x=>Mx.opt (onP truD x)
theorem DatsS.emp{S:Addr->Prop}{H:Hp}{ds:List PyData}{xs:List V}(h:DatsS S H ds xs):ds.isEmpty=xs.isEmpty:=by
 have:=h.length;cases ds<;>cases xs<;>simp_all
theorem zt(ha:DW K Er X a ma)(he:∀whole,isTrue a X.env whole=(do let v<-whole;standAt a.pos;holding [v] (truthy v))):DT K Er X a (mTru ma):=(z52 ha he).imp fun σ H Q h=>rd1 h (fun _ _ _ _ _ _ _ _ _ _ r=>r) fun g ow ρ n d v H0 H2 fr _ r q=>by
 obtain⟨k,e,q2⟩:=wU q;obtain⟨x,rfl,e1⟩:=zc e;have q3:=q2 _ _ (Kp.refl _ _) fr.twn rfl;cases x with
 | none=>cases e1;cases z3p (Rep1.d1 r);exact⟨false,rfl,q3⟩
 | bool b=>cases e1;cases z5N (Rep1.d1 r);exact⟨_,rfl,q3⟩
 | int i=>cases e1;cases zY (Rep1.d1 r);exact⟨_,rfl,q3⟩
 | str y=>
  cases z1M (Rep1.d1 r);simp only[truD]at e1;split at e1
  next hl=>cases e1;exact⟨_,⟨y3 hl,rfl⟩,q3⟩
  next=>cases e1
 | list ds=>
  cases e1;obtain⟨a,xs,rfl,g1,k1⟩:=yI (Rep1.d1 r);exact⟨_,.inl ⟨xs,SqL.of g1,by rw[k1.emp]⟩,q3⟩
 | tuple ds=>
  cases e1;obtain⟨a,xs,rfl,g1,k1⟩:=yF (Rep1.d1 r);exact⟨_,.inr (.inl ⟨xs,SqT.of g1,by rw[k1.emp]⟩),q3⟩
 | dict _=>cases e1
noncomputable def mTest(m:Env'->Mx D):Env'->Mx Bool:=fun ρ=>m ρ >>= fun x=>Mx.opt (onB x)
theorem yP{α β γ:Type}(m:Mx α)(f:α->Mx β)(k:β->Mx γ):((m >>= f) >>= k)=m >>= fun x=>f x >>= k:=by
 funext n;rw[Mx.bind_def,Mx.bind_def,Mx.bind_def];cases m n<;>rfl
theorem zj{op:CmpOp}{f:PyData->PyData->Option PyData}(ho:OpR X (compareOp op) (rD2 f))(ha:DW K Er X a ma)(hb:DW K Er X b mb)(hm:behindInMarks op b=false):DT K Er X (.Compare a [op] [b] pos) (mTest (mBin f ma mb)):=
 (z1Y ho ha hb hm).imp fun σ H Q h=>by
  have e:mTest (mBin f ma mb)=fun ρ=>ma ρ >>= fun x=>mb ρ >>= fun y=>(Mx.opt ((onP2 f x y).map D.p) >>= fun z=>Mx.opt (onB z)):=by
   funext ρ;unfold mTest mBin;rw[yP];congr 1;funext x;rw[yP]
  rw[e]at h;refine rd2 (Z:=fun v u H2=>rD2 f v u H2 fun x H'=>∃k,x=.bl k/\Q k H') h (fun _ _ _ _ _ _ _ _ _ _ r=>r) fun g ow ρ n x y v u H2 fr r1 r2 q=>?_;obtain⟨z,e,q1⟩:=yk q;obtain⟨k,e2,q2⟩:=wU q1;obtain⟨r,e3,e4⟩:=Option.map_eq_some_iff.mp e;obtain⟨x,y,rfl,rfl,e5⟩:=zo e3;have e6:=z2M e2;rw[<-e4]at e6;cases e6;exact⟨g.S ow,x,y,_,fr.dom,Dat1.weak r1,Dat1.weak r2,e5,fun v H' s d=>⟨k,by simpa only[DatS]using d,q2 _ _ s.kp (s.twn fr.twn) rfl⟩⟩
noncomputable def mNotT(m:Env'->Mx Bool):Env'->Mx Bool:=fun ρ=>m ρ >>= fun b=>pure (!b)
noncomputable def mAndT(a b:Env'->Mx Bool):Env'->Mx Bool:=fun ρ=>a ρ >>= fun t=>if t=true then b ρ else pure false
noncomputable def mOrT(a b:Env'->Mx Bool):Env'->Mx Bool:=fun ρ=>a ρ >>= fun t=>if t=true then pure true else b ρ
theorem uu(h:DT K Er X a mc):DT K Er X (.UnaryOp .Not a pos) (mNotT mc):=(z7k h).imp fun σ H Q h=>rd1 h (fun _ _ _ _ _ _ _ _ _ _ r=>r) fun g ow ρ n d v H0 H2 fr _ r q=>by
 cases r;exact q _ _ (Kp.refl _ _) fr.twn rfl
noncomputable abbrev DPW(K:W.Frag)(Er:Str->Hp->Prop)(X:Cx)(e:Expr)(m:Env'->Mx Bool):Prop:=PW X e (rdG RT K Er m)
theorem PW.imp{t t':TT}(h:PW X e t)(k:∀σ H Q,t' σ H Q->t σ H Q):PW X e t':=fun wh pins s σ H Q I q=>h wh pins s σ H Q I (k σ H Q q)
theorem z0C(h:DT K Er X a mc):DPW K Er X (.BoolOp .And [a] pos) mc:=z6k h
theorem w5(h:DT K Er X a mc):DPW K Er X (.BoolOp .Or [a] pos) mc:=z7j h
theorem z23(h:DT K Er X a mc)(h2:DPW K Er X (.BoolOp .And (b::rest) pos) mt):DPW K Er X (.BoolOp .And (a::b::rest) pos) (mAndT mc mt):=PW.imp (z8D h h2) fun σ H Q h=>rd1 h (fun _ _ _ _ _ _ _ _ _ _ r=>r) fun g ow ρ n d v H0 H2 fr _ r q=>by
 cases r;cases d with
 | true=>exact ite_tt ⟨g,ow,ρ,n,fr,q⟩
 | false=>exact ite_ff (q _ _ (Kp.refl _ _) fr.twn rfl)
theorem ui(h:DT K Er X a mc)(h2:DPW K Er X (.BoolOp .Or (b::rest) pos) mt):DPW K Er X (.BoolOp .Or (a::b::rest) pos) (mOrT mc mt):=PW.imp (z8u h h2) fun σ H Q h=>rd1 h (fun _ _ _ _ _ _ _ _ _ _ r=>r) fun g ow ρ n d v H0 H2 fr _ r q=>by
 cases r;cases d with
 | true=>exact ite_tt (q _ _ (Kp.refl _ _) fr.twn rfl)
 | false=>exact ite_ff ⟨g,ow,ρ,n,fr,q⟩
theorem DPW.dt(h:DPW K Er X a mc):DT K Er X a mc:=h.pt
noncomputable def mNil:Env'->Mx (List D):=fun _=>pure []
noncomputable def mCons(m:Env'->Mx D)(ms:Env'->Mx (List D)):Env'->Mx (List D):=fun ρ=>m ρ >>= fun x=>ms ρ >>= fun xs=>pure (x::xs)
theorem zA:DA K Er X [] mNil:=pa_nil.imp fun σ H Q ⟨g,ow,ρ,n,f,q⟩=>q [] H (Kp.refl _ _) f.twn .nil
theorem zE:DAW K Er X [] mNil:=pa_nil.imp fun σ H Q ⟨g,ow,ρ,n,f,q⟩=>q [] H (Kp.refl _ _) f.twn .nil
theorem z4(ha:DE K Er X e m)(hr:DA K Er X es ms)(hs:starEach (e::es) X.env=(false,eval e X.env)::starEach es X.env:=by rfl):DA K Er X (e::es) (mCons m ms):=(zK ha hr hs).imp fun σ H Q h=>
 rd1 h (fun _ _ _ _ _ _ _ _ _ _ r=>r) fun g ow ρ n d v H0 H1 fr _ r q=>by
  refine⟨g,ow,ρ,n,fr,?_⟩;refine AftG.bind q fun xs n2 vs H2 k2 t2 r2 c2=>?_;exact c2 (R3:=RA g (g.S ow)) (fun _ _ _ z=>z) (v::vs) H2 (Kp.refl _ _) t2 (.cons (r.kp (k2.mono Gh.ts) fun a z=>.inl z) r2)
theorem z8(ha:DW K Er X e m)(hr:DAW K Er X es ms)(hs:starEach (e::es) X.env=(false,eval e X.env)::starEach es X.env:=by rfl):DAW K Er X (e::es) (mCons m ms):=(zK ha hr hs).imp fun σ H Q h=>
 rd1 h (fun _ _ _ _ _ _ _ _ _ _ r=>r) fun g ow ρ n d v H0 H1 fr _ r q=>by
  refine⟨g,ow,ρ,n,fr,?_⟩;refine AftG.bind q fun xs n2 vs H2 k2 t2 r2 c2=>?_;exact c2 (R3:=RAW g (g.S ow)) (fun _ _ _ z=>z) (v::vs) H2 (Kp.refl _ _) t2 (.cons (Rep1.kp k2 Gh.us r) r2)
noncomputable def toP:List D->Option (List PyData)
 | []=>some []
 | .p x::r=>(toP r).map (x::·)
 | _=>none
theorem z6D{g:Gh}{S:Addr->Prop}{H:Hp}:∀{ds:List D} {xs:List PyData} {vs:List V},toP ds=some xs->All2 (Rep g S H) ds vs->DatsS S H xs vs
 | [],xs,_,h,r=>by simp only[toP]at h;cases h;cases r;exact .nil
 | .p x::ds,xs,_,h,r=>by
  simp only[toP]at h;cases e:toP ds with
  | none=>rw[e]at h;cases h
  | some ys=>
   rw[e]at h;cases h;cases r with
   | cons r1 r2=>exact .cons r1 (z6D e r2)
 | .scr _::_,_,_,h,_=>by simp only[toP]at h;cases h
 | .town::_,_,_,h,_=>by simp only[toP]at h;cases h
 | .fn _::_,_,_,h,_=>by simp only[toP]at h;cases h
 | .exc _ _::_,_,_,h,_=>by simp only[toP]at h;cases h
noncomputable def mSeq(j:List PyData->PyData)(ms:Env'->Mx (List D)):Env'->Mx PyData:=fun ρ=>ms ρ >>= fun ds=>Mx.opt ((toP ds).bind fun xs=>if xs.length<=lim then some (j xs)else none)
theorem z3S{α:Type}{j:List PyData->PyData}{g:Gh}{S:Addr->Prop}{R:Hp->Hp->PyData->α->Prop}{H:Hp}{ds:List D}{vs:List V}{n:Nat}{Q:α->Hp->Prop}(t:Twn g H n)(r:All2 (Rep g S H) ds vs)(h:AftG R g Er H (Mx.opt ((toP ds).bind fun xs=>if xs.length<=lim then some (j xs)else none) n) Q):
  ∃xs,DatsS S H xs vs/\vs.length<=sizeLine/\∀v H',Same H H'->R H H' (j xs) v->Q v H':=by
 cases e:toP ds with
 | none=>rw[e]at h;exact h.elim
 | some xs=>
  rw[e]at h;have h:AftG R g Er H (Mx.opt (if xs.length<=lim then some (j xs)else none) n) Q:=h;have k:=z6D e r;split at h
  next hl=>exact⟨xs,k,y3 (by rw[<-k.length];exact hl),fun v H' s r=>h v H' s.kp (s.twn t) r⟩
  next=>exact h.elim
theorem yt{x1}(h:DA K Er X es ms):DE K Er X (.Tuple es x1 pos) (mP (mSeq PyData.tuple ms)):=(z6B h).imp fun σ H Q h=>by
 have e:mP (mSeq PyData.tuple ms)=fun ρ=>ms ρ >>= fun ds=>(Mx.opt ((toP ds).bind fun xs=>if xs.length<=lim then some (PyData.tuple xs)else none) >>= fun x=>pure (D.p x)):=by
  funext ρ;unfold mP mSeq;rw[yP]
 rw[e]at h;refine rd1 h (fun _ _ _ _ _ _ _ _ _ _ r=>r) fun g ow ρ n ds vs H0 H2 fr _ r q=>?_;have q':AftG (fun H H' (x:PyData) v=>RE g (g.S ow) H H' (.p x) v) g Er H2 (Mx.opt ((toP ds).bind fun xs=>if xs.length<=lim then some (PyData.tuple xs)else none) n) Q:=by
  rw[Mx.bind_def]at q;cases z:Mx.opt ((toP ds).bind fun xs=>if xs.length<=lim then some (PyData.tuple xs)else none) n with
  | ok x k=>rw[z]at q;exact q
  | err c k=>rw[z]at q;exact q
  | bad=>rw[z]at q;exact q
 obtain⟨xs,k,hl,q⟩:=z3S fr.twn r q';exact⟨hl,fun p hp=>q _ _ (Same.new hp) (z2E hp k)⟩
theorem xR(h:DA K Er X es ms):DF K Er X (.List es pos) (mSeq PyData.list ms):=(z2T h).imp fun σ H Q h=>rd1 h xu fun g ow ρ n ds vs H0 H2 fr _ r q=>by
 obtain⟨xs,k,hl,q⟩:=z3S fr.twn r q;refine⟨hl,fun p hp=>q _ _ (Same.new hp) ⟨p,rfl,hp,Pl.upd,?_⟩⟩;simp only[Dat1];exact⟨p,vs,rfl,id,z6,DatsS.kp (Kp.of (Same.new hp)) (fun b z=>z.elim .inl fun e=>.inr (e▸hp)) k⟩
end
section
variable{K:W.Frag}{Er:Str->Hp->Prop}{X:Cx}{e a b c:Expr}{es rest:List Expr}{m ma mb:Env'->Mx D}{mc mt:Env'->Mx Bool}{ms:Env'->Mx (List D)}{pos p2:Pos}
theorem zT(hu:X.A.units+1<cLine)(ha:DW K Er X a ma)(hb:DW K Er X b mb)(hs:z4e b):DE K Er X (.Subscript a b pos) (mBin fIx ma mb):=
 (uD (ix_D hu) ha hb hs).imp fun σ H Q h=>rd2 (Z:=fun v u H2=>rD2 fIx v u H2 Q) h (fun _ _ _ _ _ _ _ _ _ _ r=>r) fun g ow ρ n x y v u H2 fr r1 r2 q=>by
  obtain⟨r,e,q2⟩:=xB fr.twn q;obtain⟨x,y,rfl,rfl,e⟩:=zo e;exact⟨g.S ow,x,y,r,fr.dom,Dat1.weak r1,Dat1.weak r2,e,q2⟩
noncomputable def onPs{α:Type}(f:List PyData->Option α)(ds:List D):Option α:=(toP ds).bind f
noncomputable def rDn(f:List PyData->Option PyData):List V->Hp->VK->Prop:=fun vs H Q=>∃S ds r,(∀a,S a->H a≠none)/\All2 (Dat1 N0 S H) ds vs/\f ds=some r/\∀v H',Same H H'->DatS S H' r v->Q v H'
noncomputable def mCallB(f:List PyData->Option PyData)(ms:Env'->Mx (List D)):Env'->Mx D:=fun ρ=>ms ρ >>= fun ds=>Mx.opt ((onPs f ds).map D.p)
theorem z45{g:Gh}{S:Addr->Prop}{H:Hp}:∀{ds:List D} {xs:List PyData} {vs:List V},toP ds=some xs->All2 (Rep1 g S H) ds vs->All2 (Dat1 N0 S H) xs vs
 | [],xs,_,h,r=>by simp only[toP]at h;cases h;cases r;exact .nil
 | .p x::ds,xs,_,h,r=>by
  simp only[toP]at h;cases e:toP ds with
  | none=>rw[e]at h;cases h
  | some ys=>
   rw[e]at h;cases h;cases r with
   | cons r1 r2=>exact .cons (Dat1.weak r1) (z45 e r2)
 | .scr _::_,_,_,h,_=>by simp only[toP]at h;cases h
 | .town::_,_,_,h,_=>by simp only[toP]at h;cases h
 | .fn _::_,_,_,h,_=>by simp only[toP]at h;cases h
 | .exc _ _::_,_,_,h,_=>by simp only[toP]at h;cases h
theorem z6h{f:List PyData->Option PyData}{t:TE}(h:∀σ H Q,rdG RAW K Er ms σ H (fun vs H1=>rDn f vs H1 Q)->t σ H Q)(hp:PE X e t):DE K Er X e (mCallB f ms):=hp.imp fun σ H Q hq=>h σ H Q (rd1 hq (fun _ _ _ _ _ _ _ _ _ _ r=>r) fun g ow ρ n ds vs H0 H2 fr _ r q=>by
 obtain⟨z,e,q2⟩:=xB fr.twn q;obtain⟨xs,e1,e2⟩:=Option.bind_eq_some_iff.mp e;exact⟨g.S ow,xs,z,fr.dom,z45 e1 r,e2,q2⟩)
theorem zM{x:Str}{id:String}{p:Pos}{f:List PyData->Option PyData}(hc:CallR X (.builtin id) (rDn f))(hg:Gl X x)(hm:X.mg x=none)(hv:bootBuiltins x=some (.builtin id))(ha:DAW K Er X (e::es) ms)(hn:x≠"__name__":=by decide)(hdb:(x == ("__debug__":Str))=false:=by decide)
  (he:starEach (e::es) X.env=(false,eval e X.env)::starEach es X.env:=by rfl) (hpl:(backTo pos (starEach es X.env)).any (·.1)=false:=by rfl):DE K Er X (.Call (.Name x p) (e::es) [] pos) (mCallB f ms):=
 z6h (fun σ H Q h=>h) (yD hc hg hm hv ha hn hdb he hpl)
theorem ze{x:Str}{T:String}{p:Pos}{f:List PyData->Option PyData}(hc:CallR X (.type T) (rDn f))(hg:Gl X x)(hm:X.mg x=none)(hv:bootBuiltins x=some (.type T))(ha:DAW K Er X (e::es) ms)(hn:x≠"__name__":=by decide)(hdb:(x == ("__debug__":Str))=false:=by decide)
  (he:starEach (e::es) X.env=(false,eval e X.env)::starEach es X.env:=by rfl) (hpl:(backTo pos (starEach es X.env)).any (·.1)=false:=by rfl):DE K Er X (.Call (.Name x p) (e::es) [] pos) (mCallB f ms):=
 z6h (fun σ H Q h=>h) (yZ hc hg hm hv ha hn hdb he hpl)
theorem all1{α β:Type}{R:α->β->Prop}{d:α}{vs:List β}(h:All2 R [d] vs):∃v,vs=[v]/\R d v:=by
 cases h with
 | cons r t=>cases t;exact⟨_,rfl,r⟩
theorem all2{α β:Type}{R:α->β->Prop}{d e:α}{vs:List β}(h:All2 R [d,e] vs):∃v u,vs=[v,u]/\R d v/\R e u:=by
 cases h with
 | cons r t=>
  obtain⟨u,rfl,r2⟩:=all1 t;exact⟨_,u,rfl,r,r2⟩
noncomputable def fLen:List PyData->Option PyData
 | [.list ds]=>some (.int ds.length)
 | [.tuple ds]=>some (.int ds.length)
 | [.str x]=>if x.length<=lim then some (.int x.length)else none
 | _=>none
theorem ug:CallR X (.builtin "len") (rDn fLen):=(call_len_seq.or z10).imp fun vs H Q ⟨S,ds,r,hS,h1,hf,q⟩=>by
 match ds,hf,h1 with
 | [.list xs],hf,h1=>
  cases hf;obtain⟨v,rfl,r⟩:=all1 h1;obtain⟨a,ys,rfl,g1,k1⟩:=yI r;exact .inl ⟨a,ys,rfl,.inl (SqL.of g1),by rw[<-k1.length];exact q _ _ (Same.refl _) di⟩
 | [.tuple xs],hf,h1=>
  cases hf;obtain⟨v,rfl,r⟩:=all1 h1;obtain⟨a,ys,rfl,g1,k1⟩:=yF r;exact .inl ⟨a,ys,rfl,.inr (SqT.of g1),by rw[<-k1.length];exact q _ _ (Same.refl _) di⟩
 | [.str x],hf,h1=>
  obtain⟨v,rfl,r⟩:=all1 h1;simp only[fLen]at hf;split at hf
  next hl=>cases hf;exact .inr ⟨x,by rw[z1M r],y3 hl,q _ _ (Same.refl _) di⟩
  next=>cases hf
noncomputable def yn:List PyData->Option PyData
 | [.list ds]=>some (.tuple ds)
 | [.tuple ds]=>some (.tuple ds)
 | _=>none
theorem y8:CallR X (.type "tuple") (rDn yn):=call_tuple_of.imp fun vs H Q ⟨S,ds,r,hS,h1,hf,q⟩=>by
 match ds,hf,h1 with
 | [.list xs],hf,h1=>
  cases hf;obtain⟨v,rfl,r⟩:=all1 h1;obtain⟨a,ys,rfl,g1,k1⟩:=yI r;exact⟨a,ys,rfl,.inl ⟨SqL.of g1,fun l hl=>q _ _ (Same.new hl) (z2E hl k1)⟩⟩
 | [.tuple xs],hf,h1=>
  cases hf;obtain⟨v,rfl,r⟩:=all1 h1;obtain⟨a,ys,rfl,g1,k1⟩:=yF r;exact⟨a,ys,rfl,.inr ⟨SqT.of g1,q _ _ (Same.refl _) (u4 g1 k1)⟩⟩
noncomputable def yy:List PyData->Option (List Bool)
 | []=>some []
 | .bool i::r=>(yy r).map (i::·)
 | _=>none
theorem z04:∀{ds:List PyData} {ns:List Bool},yy ds=some ns->ds=ns.map PyData.bool
 | [],ns,h=>by simp only[yy]at h;cases h;rfl
 | d::r,ns,h=>by
  cases d<;>simp only[yy]at h<;>try (cases h;done)
  cases e:yy r with
  | none=>rw[e]at h;cases h
  | some ms=>rw[e]at h;cases h;rw[List.map_cons,z04 e]
theorem DatsS.bools{S:Addr->Prop}{H:Hp}:∀{ns:List Bool} {xs:List V},DatsS S H (ns.map PyData.bool) xs->xs=ns.map V.bl
 | [],xs,h=>by simpa only[List.map_nil,DatsS]using h
 | n::ns,xs,h=>by
  simp only[List.map_cons,DatsS]at h;obtain⟨x,r,rfl,h1,h2⟩:=h;simp only[DatS]at h1;subst h1;rw[List.map_cons,DatsS.bools h2]
noncomputable def zn(f:List Bool->Bool):List PyData->Option PyData
 | [.list ds]=>(yy ds).map fun bs=>.bool (f bs)
 | _=>none
theorem z28{f:List Bool->Bool}{vs:List V}{H:Hp}{Q:VK}(h:rDn (zn f) vs H Q):∃(p:Addr) (bs:List Bool),vs=[.ref p]/\SqL X.K H p (bs.map V.bl)/\Q (.bl (f bs)) H:=by
 obtain⟨S,ds,r,hS,h1,hf,q⟩:=h
 match ds,hf,h1 with
 | [.list xs],hf,h1=>
  simp only[zn]at hf;obtain⟨bs,e,e2⟩:=Option.map_eq_some_iff.mp hf;subst e2;obtain⟨v,rfl,r⟩:=all1 h1;obtain⟨a,ys,rfl,g1,k1⟩:=yI r;rw[z04 e]at k1;rw[k1.bools]at g1;exact⟨a,bs,rfl,SqL.of g1,q _ _ (Same.refl _) db⟩
theorem uh(hc:X.calm=true):CallR X (.builtin "all") (rDn (zn fun bs=>bs.all id)):=(z4m hc).imp fun vs H Q h=>z28 h
theorem z7c(hc:X.calm=true):CallR X (.builtin "any") (rDn (zn fun bs=>bs.any id)):=(z3c hc).imp fun vs H Q h=>z28 h
end
structure Walks(S:Addr->Prop)(H:Hp)(J:It)(xs:List V):Prop where
 go:∀i H',Kp S H H'->i<xs.length->J.go i H'
 yld:∀i H' x H'',Kp S H H'->J.yld i H' x H''->H''=H'/\(i<xs.length->xs[i]?=some x)
 stop:∀H',Kp S H H'->J.stop xs.length H'
theorem uk{K:W.Frag}{S:Addr->Prop}{H:Hp}{a:Addr}{xs:List V}(h:H a=some (.lst xs))(hs:¬S a):Walks S H (Itl K a) xs:=
 ⟨fun i H' k hi=>⟨xs,xs[i],SqL.of (k _ _ h (.inl hs)),by simp[hi]⟩,fun i H' x H'' k y=>⟨y.1,fun _=>y.2 xs (SqL.of (k _ _ h (.inl hs)))⟩,fun H' k=>⟨xs,SqL.of (k _ _ h (.inl hs)),Nat.le_refl _⟩⟩
theorem wj{K:W.Frag}{S:Addr->Prop}{H:Hp}{a:Addr}{xs:List V}(h:H a=some (.tup xs)):Walks S H (Itt K a) xs:=
 ⟨fun i H' k hi=>⟨xs,xs[i],SqT.of (k _ _ h (.inr ⟨_,rfl⟩)),by simp[hi]⟩,fun i H' x H'' k y=>⟨y.1,fun _=>y.2 xs (SqT.of (k _ _ h (.inr ⟨_,rfl⟩)))⟩,fun H' k=>⟨xs,SqT.of (k _ _ h (.inr ⟨_,rfl⟩)),Nat.le_refl _⟩⟩
theorem z0y{S:Addr->Prop}{H:Hp}{lo:Int}{n:Nat}:Walks S H (Itr lo n) ((List.range n).map fun(i:Nat)=>V.int (lo+(i:Int))):=by
 refine⟨fun i H' _ hi=>?_,fun i H' x H'' _ y=>⟨y.1,fun hi=>?_⟩,fun H' _=>?_⟩
 ·show i<n;simpa using hi
 ·obtain⟨_,rfl⟩:=y;have hi:i<n:=by simpa using hi
  simp[hi]
 ·show n<=_;simp
noncomputable def RI(w:Bool):RG (List PyData) It:=fun g S _ H' ds J=>ds.length<=lim/\∃xs,DatsS S H' ds xs/\Walks (if w=true then g.T else S) H' J xs
noncomputable abbrev DI(w:Bool)(K:W.Frag)(Er:Str->Hp->Prop)(X:Cx)(tg it:Expr)(m:Env'->Mx (List PyData)):Prop:=PI X tg it (rdG (RI w) K Er m)
theorem PI.imp{X:Cx}{tg it:Expr}{t t':TI}(h:PI X tg it t)(k:∀σ H Q,t' σ H Q->t σ H Q):PI X tg it t':=fun pins s σ H Q I q=>h pins s σ H Q I (k σ H Q q)
section
variable{K:W.Frag}{Er:Str->Hp->Prop}{X:Cx}{e a b c tg it elt:Expr}{es rest:List Expr}{m ma mb:Env'->Mx D}{mc mt:Env'->Mx Bool}{ms:Env'->Mx (List D)}{mi:Env'->Mx (List PyData)}{pos p2:Pos}
theorem z47{l:Expr}{tl:TE}(hl:PE X l tl):PI X tg l (fun σ H R=>tl σ H fun x H1=>∃a,x=.ref a/\(((∃xs,SqL X.K H1 a xs)/\R (Itl X.K a) H1)\/((∃xs,SqT X.K H1 a xs)/\R (Itt X.K a) H1))):=by
 intro pins s σ H R I h;refine thn (hl pins s σ H _ I h) fun v s1 ⟨x,H1,I1,r1,q1⟩=>?_;obtain⟨a,e,q1⟩:=q1;subst e;cases r1;have fp:∀b∈[s1.heap.objs.size],FpOk X pins H1 b:=fun b hb=>by
  have e:b=s1.heap.objs.size:=by simpa using hb
  subst e;exact I1.fpOk (Nat.le_refl _) (I1.hok.fresh (Nat.le_refl _))
 rcases q1 with ⟨⟨xs,hq⟩,q⟩ | ⟨⟨xs,hq⟩,q⟩
 ·obtain⟨its,rv,p,hz⟩:=I1.list hq;refine wpAny_pyIter_list p.isList ?_;exact⟨s1.heap.objs.size,[s1.heap.objs.size],_,_,H1,rfl,I1.kept (t':=s1.toks) fun b o e=>Heap.get?_push_of_some _ e,z3f a _,⟨_,Heap.get?_push_size _ rfl,rfl,rfl⟩,fp,q⟩
 ·obtain⟨its,rv,p,hz⟩:=I1.tuple hq;refine wpAny_pyIter_tuple (show s1.heap.IsTuple a its.toArray from p) ?_;exact⟨s1.heap.objs.size,[s1.heap.objs.size],_,_,H1,rfl,I1.kept (t':=s1.toks) fun b o e=>Heap.get?_push_of_some _ e,z01 a _,⟨_,Heap.get?_push_size _ rfl,rfl,rfl⟩,fp,q⟩
noncomputable def itD:PyData->Option (List PyData)
 | .list ds=>if ds.length<=lim then some ds else none
 | .tuple ds=>if ds.length<=lim then some ds else none
 | _=>none
noncomputable def mIt(m:Env'->Mx D):Env'->Mx (List PyData):=fun ρ=>m ρ >>= fun x=>Mx.opt (onP itD x)
theorem z1L{x:PyData}{ds:List PyData}(h:itD x=some ds):ds.length<=lim/\(x=.list ds\/x=.tuple ds):=by
 cases x<;>simp only[itD]at h<;>try (cases h;done)
 all_goals (split at h<;>cases h)
 ·exact⟨by assumption,.inl rfl⟩
 ·exact⟨by assumption,.inr rfl⟩
theorem z7F(h:DE K Er X it m):DI false K Er X tg it (mIt m):=(z47 h).imp fun σ H Q h=>rd1 h (fun _ _ _ _ _ _ _ _ _ _ r=>r) fun g ow ρ n d v H0 H2 fr _ r q=>by
 obtain⟨ds,e,q2⟩:=wU q;obtain⟨x,rfl,e1⟩:=zc e;obtain⟨hl,rfl | rfl⟩:=z1L e1
 ·obtain⟨a,xs,rfl,hn,h1,h2⟩:=(show ∃a xs,v=.ref a/\¬(g.S ow) a/\H2 a=some (.lst xs)/\DatsS (g.S ow) H2 ds xs by simpa only[Rep,DatS]using r);exact⟨a,rfl,.inl ⟨⟨xs,SqL.of h1⟩,q2 _ _ (Kp.refl _ _) fr.twn ⟨hl,xs,h2,uk h1 (by rw[if_neg Bool.false_ne_true];exact hn)⟩⟩⟩
 ·obtain⟨a,xs,rfl,h1,h2⟩:=yF (T:=N0) (DatS.one (fun _ z=>z.elim) (show DatS (g.S ow) H2 (.tuple ds) v from r));exact⟨a,rfl,.inr ⟨⟨xs,SqT.of h1⟩,q2 _ _ (Kp.refl _ _) fr.twn ⟨hl,xs,h2,wj h1⟩⟩⟩
theorem yS(h:DW K Er X it m):DI true K Er X tg it (mIt m):=(z47 h).imp fun σ H Q h=>rd1 h (fun _ _ _ _ _ _ _ _ _ _ r=>r) fun g ow ρ n d v H0 H2 fr _ r q=>by
 obtain⟨ds,e,q2⟩:=wU q;obtain⟨x,rfl,e1⟩:=zc e;obtain⟨hl,rfl | rfl⟩:=z1L e1
 ·obtain⟨a,xs,rfl,hn,h1,h2⟩:=(show ∃a xs,v=.ref a/\¬g.U a/\H2 a=some (.lst xs)/\DatsS (g.S ow) H2 ds xs by simpa only[Rep1,Dat1]using r);exact⟨a,rfl,.inl ⟨⟨xs,SqL.of h1⟩,q2 _ _ (Kp.refl _ _) fr.twn ⟨hl,xs,h2,uk h1 (by intro z;rw[if_pos rfl]at z;exact hn (.inr z))⟩⟩⟩
 ·obtain⟨a,xs,rfl,h1,h2⟩:=yF (Rep1.d1 r);exact⟨a,rfl,.inr ⟨⟨xs,SqT.of h1⟩,q2 _ _ (Kp.refl _ _) fr.twn ⟨hl,xs,h2,wj h1⟩⟩⟩
noncomputable def rngD(lo hi:Int):List PyData:=(List.range (hi - lo).toNat).map fun(i:Nat)=>.int (lo+(i:Int))
noncomputable def yW:List PyData->Option (List PyData)
 | [.int j]=>if -1000000<=j/\j<=1000000 then some (rngD 0 j)else none
 | _=>none
noncomputable def z2s:List PyData->Option (List PyData)
 | [.int i,.int j]=>if (-1000000<=i/\i<=1000000)/\(-1000000<=j/\j<=1000000)/\(j - i).toNat<=lim then some (rngD i j)else none
 | _=>none
noncomputable def mRng(f:List PyData->Option (List PyData))(ms:Env'->Mx (List D)):Env'->Mx (List PyData):=fun ρ=>ms ρ >>= fun ds=>Mx.opt (onPs f ds)
theorem wJ{S:Addr->Prop}{H:Hp}(f:Nat->Int):∀l:List Nat,DatsS S H (l.map fun i=>PyData.int (f i)) (l.map fun i=>V.int (f i))
 | []=>.nil
 | _::l=>.cons di (wJ f l)
theorem yJ{w:Bool}{p pos:Pos}(hg:Gl X "range")(hm:X.mg "range"=none)(ha:DAW K Er X [a] ms)(hs:starEach [a] X.env=[(false,eval a X.env)]:=by rfl):DI w K Er X tg (.Call (.Name "range" p) [a] [] pos) (mRng yW ms):=
 (z1O hg hm ha hs).imp fun σ H Q h=>rd1 h (fun _ _ _ _ _ _ _ _ _ _ r=>r) fun g ow ρ n d v H0 H2 fr _ r q=>by
  obtain⟨ds,e,q2⟩:=wU q;obtain⟨xs,e1,e2⟩:=Option.bind_eq_some_iff.mp e;have r2:=z45 e1 r
  match xs,e2,r2 with
  | [.int j],e2,r2=>
   simp only[yW]at e2;split at e2
   next hl=>
    cases e2;obtain⟨u,rfl,r3⟩:=all1 r2;refine⟨j,by rw[zY r3],by omega,by omega,q2 _ _ (Kp.refl _ _) fr.twn ⟨?_,_,?_,z0y⟩⟩
    ·unfold rngD lim;simp;omega
    ·rw[show j.toNat=(j - 0).toNat by omega];exact wJ (fun i=>0+(i:Int)) _
   next=>cases e2
theorem z4P{w:Bool}{p pos:Pos}(hg:Gl X "range")(hm:X.mg "range"=none)(ha:DAW K Er X [a,b] ms)(hs:starEach [a,b] X.env=[(false,eval a X.env),(false,eval b X.env)]:=by rfl)(hs2:starEach [b] X.env=[(false,eval b X.env)]:=by rfl):DI w K Er X tg (.Call (.Name "range" p) [a,b] [] pos) (mRng z2s ms):=
 (z4M hg hm ha hs hs2).imp fun σ H Q h=>rd1 h (fun _ _ _ _ _ _ _ _ _ _ r=>r) fun g ow ρ n d v H0 H2 fr _ r q=>by
  obtain⟨ds,e,q2⟩:=wU q;obtain⟨xs,e1,e2⟩:=Option.bind_eq_some_iff.mp e;have r2:=z45 e1 r
  match xs,e2,r2 with
  | [.int i,.int j],e2,r2=>
   simp only[z2s]at e2;split at e2
   next hl=>
    cases e2;obtain⟨u,u2,rfl,r3,r4⟩:=all2 r2;refine⟨i,j,by rw[zY r3,zY r4],⟨by omega,by omega,by omega,by omega⟩,q2 _ _ (Kp.refl _ _) fr.twn ⟨?_,_,?_,z0y⟩⟩
    ·unfold rngD;rw[List.length_map,List.length_range];exact hl.2.2
    ·exact wJ (fun k=>i+(k:Int)) _
   next=>cases e2
noncomputable def zS(c:Env'->Mx Bool)(e:Env'->Mx D)(ρ:Env'):List PyData->List PyData->Mx (List PyData)
 | [],acc=>pure acc
 | d::r,acc=>c (ρ++[some (Sl.val (.p d))]) >>= fun t=>if t=true then(e (ρ++[some (Sl.val (.p d))]) >>= fun y=>Mx.opt (onP some y) >>= fun z=>zS c e ρ r (acc++[z]))else zS c e ρ r acc
noncomputable def mComp(mi:Env'->Mx (List PyData))(mc:Env'->Mx Bool)(me:Env'->Mx D):Env'->Mx PyData:=fun ρ=>mi ρ >>= fun ds=>zS mc me ρ ds [] >>= fun l=>pure (.list l)
noncomputable def mYes:Env'->Mx Bool:=fun _=>pure true
theorem Frm.ext1{g:Gh}{ow:Ix->Option Addr}{ρ:Env'}{n:Nat}{σ:St}{H:Hp}{d:D}{v:V}(f:Frm K g ow ρ n σ H)(r:Rep g (g.S ow) H d v):Frm K g ow (ρ++[some (Sl.val d)]) n (σ++[some v]) H:=by
 have hl:=f.len;refine⟨f.scr,f.twn,f.sub,f.ext,fun i d' e=>?_,fun i x e=>?_,fun i kl e=>?_,fun i a e=>?_,f.inj,by simp[hl]⟩
 ·by_cases hi:i<ρ.length
  ·rw[List.getElem?_append_left hi]at e;obtain⟨v',e1,r1⟩:=f.val i d' e;exact⟨v',by rw[List.getElem?_append_left (by omega)];exact e1,r1⟩
  ·have hi':i=ρ.length:=by
    have:=(List.getElem?_eq_some_iff.mp e).1;simp at this;omega
   subst hi';rw[List.getElem?_append_right (Nat.le_refl _),Nat.sub_self]at e;cases e;exact⟨v,by rw[hl,List.getElem?_append_right (Nat.le_refl _),Nat.sub_self];rfl,r⟩
 ·by_cases hi:i<ρ.length
  ·rw[List.getElem?_append_left hi]at e;obtain⟨a,e0,e1,r1⟩:=f.own i x e;exact⟨a,e0,by rw[List.getElem?_append_left (by omega)];exact e1,r1⟩
  ·have hi':i=ρ.length:=by
    have:=(List.getElem?_eq_some_iff.mp e).1;simp at this;omega
   subst hi';rw[List.getElem?_append_right (Nat.le_refl _),Nat.sub_self]at e;cases e
 ·by_cases hi:i<ρ.length
  ·rw[List.getElem?_append_left hi]at e;obtain⟨v',e1,r1⟩:=f.dp i kl e;exact⟨v',by rw[List.getElem?_append_left (by omega)];exact e1,r1⟩
  ·have hi':i=ρ.length:=by
    have:=(List.getElem?_eq_some_iff.mp e).1;simp at this;omega
   subst hi';rw[List.getElem?_append_right (Nat.le_refl _),Nat.sub_self]at e;cases e
 ·obtain⟨h1,h2,h3,h4⟩:=f.owi i a e;exact⟨h1,h2,h3,by simp;omega⟩
theorem z0B{w:Bool}{tc:TT}{σ:St}{H:Hp}{Q:VK}(hw:w=true)(htc:∀σ H Q,rdG RT K Er mc σ H Q->tc σ H Q)(h:rdG RF K Er (mComp mi mc m) σ H Q):z41 (rdG (RI w) K Er mi) tc (rdG RE K Er m) σ H Q:=by
 subst hw;refine rd1 h xu fun g ow ρ n ds J H0 H1 fr k01 ⟨hl,xs,hd,wk⟩ q=>?_;have hlen:=hd.length;simp only[if_true]at wk;refine⟨xs.length,fun i ys H'=>∃acc n',Kp g.T H1 H'/\Twn g H' n'/\DatsS (g.S ow) H' acc ys/\AftG (fun _ H2 x v=>RF g (g.S ow) H1 H2 x v) g Er H' ((zS mc m ρ (ds.drop i) acc >>= fun l=>pure (PyData.list l)) n') Q,
  ⟨[],n,Kp.refl _ _,fr.twn,.nil,by rw[List.drop_zero];exact q.imp (fun _ _ _ z=>z) fun _ _ z=>z⟩,⟨y3 (by rw[<-hlen];exact hl),fun ys H' ⟨_,_,k,_⟩=>wk.stop H' k,fun i ys H' hi ⟨_,_,k,_⟩=>wk.go i H' k hi,fun i ys H' v H'' hi ⟨acc,n',k,t,dd,q⟩ y=>?_⟩,fun ys H' ⟨acc,n',k,t,dd,q⟩ D hD=>?_⟩
 ·obtain⟨rfl,hv⟩:=wk.yld i H' v _ k y;have hv:=hv hi;have hid:i<ds.length:=by omega
  obtain⟨v',ev,rv⟩:=hd.get (List.getElem?_eq_getElem hid);rw[hv]at ev;cases ev;have rv':Rep g (g.S ow) H'' (.p ds[i]) v:=DatS.kp (k.mono Gh.ts) (fun _ z=>.inl z) rv;have f1:Frm K g ow (ρ++[some (Sl.val (.p ds[i]))]) n' (σ++[some v]) H'':=(fr.kp k t).ext1 rv';rw[List.drop_eq_getElem_cons hid]at q;simp only[zS,yP]at q;refine htc _ _ _ ⟨g,ow,_,n',f1,AftG.bind q fun tb n2 tb' H3 k3 t3 r3 c3=>?_⟩;cases r3;have q3:=c3 (R3:=fun _ H2 x v=>RF g (g.S ow) H1 H2 x v) fun _ _ _ z=>z;cases tb with
  | false=>
   refine ite_ff ⟨acc,n2,k.trans k3,t3,DatsS.kp (k3.mono Gh.ts) (fun _ z=>.inl z) dd,?_⟩;simpa using q3
  | true=>
   simp only[if_true,yP]at q3;refine ite_tt ⟨g,ow,_,n2,f1.kp k3 t3,AftG.bind q3 fun yv n4 yv' H4 k4 t4 r4 c4=>?_⟩;have q4:=c4 (R3:=fun _ H2 x v=>RF g (g.S ow) H1 H2 x v) fun _ _ _ z=>z;obtain⟨z,ez,q5⟩:=yk q4;obtain⟨z',rfl,ez2⟩:=zc ez;cases ez2;exact⟨acc++[z],n4,(k.trans k3).trans k4,t4,(DatsS.kp ((k3.trans k4).mono Gh.ts) (fun _ z=>.inl z) dd).append (.cons r4 .nil),q5⟩
 ·rw[List.drop_of_length_le (by omega)]at q;have q:AftG (fun _ H2 x v=>RF g (g.S ow) H1 H2 x v) g Er H' (.ok (.list acc) n') Q:=q;refine q (.ref D) _ (Same.new hD).kp ((Same.new hD).twn t) ⟨D,rfl,xj k t hD,Pl.upd,?_⟩;simp only[Dat1];exact⟨D,ys,rfl,id,z6,DatsS.kp (Kp.of (Same.new hD)) (fun b z=>z.elim .inl fun e=>.inr (e▸hD)) dd⟩
theorem zW:∀(σ:St) (H:Hp) (Q:Bool->Hp->Prop),rdG RT K Er mYes σ H Q->tYes σ H Q:=fun σ H Q ⟨g,ow,ρ,n,f,q⟩=>q true H (Kp.refl _ _) f.twn rfl
theorem zz{N N':List Str}{sc scope:Scope}{x:Str}{ifs:List Expr}{px:Pos}{tc:TT}(hc:X.calm=true)(hN:X.N=N)(hsc:X.env.scope=sc)(h:wf N sc scope x N'=true)(htc:∀σ H Q,rdG RT K Er mc σ H Q->tc σ H Q)
  (hi:DI true K Er X (.Name x px) it mi) (hf:∀C s H fp,PF (zO X scope N' C s H fp) ifs tc) (he:∀C s H fp,DE K Er (zO X scope N' C s H fp) elt m)
  (hs:∀x,foldedSetIterable it X.env x=pure x:=by intro _;rfl):DF K Er X (.ListComp elt [⟨.Name x px,it,ifs,0⟩] scope pos) (mComp mi mc m):=(z3L hc hN hsc h hi hf he hs).imp fun σ H Q h=>z0B rfl htc h
theorem z0M{N N':List Str}{sc scope:Scope}{x:Str}{ifs:List Expr}{px:Pos}{tc:TT}(hc:X.calm=true)(hN:X.N=N)
  (hcap:∀y:Str,(sc.names.lookup y=some .cell\/sc.names.lookup y=some .free)->(X.env.scope.names.lookup y=some .cell\/X.env.scope.names.lookup y=some .free)) (h:wf N sc scope x N'=true) (htc:∀σ H Q,rdG RT K Er mc σ H Q->tc σ H Q)
  (hi:DI true K Er X (.Name x px) it mi) (hf:∀C s H fp,PF (zO X scope N' C s H fp) ifs tc) (he:∀C s H fp,DE K Er (zO X scope N' C s H fp) elt m)
  (hs:∀x,foldedSetIterable it X.env x=pure x:=by intro _;rfl):DF K Er X (.ListComp elt [⟨.Name x px,it,ifs,0⟩] scope pos) (mComp mi mc m):=(z5o hc hN hcap h hi hf he hs).imp fun σ H Q h=>z0B rfl htc h
end
noncomputable def spD(K:W.Frag)(EW:Str->XK->Hp->Prop)(F:List D->Mx D):Sp:=fun vs H Q E=>∃g n ds,g.H0=H/\Scp K g H/\Twn g H n/\(∀a,g.S0 a->H a≠none)/\All2 (Rep g g.U H) ds vs/\
 AftG (fun _ H' d v=>Rep g g.U H' d v) g (fun c H'=>EW c E H') H (F ds n) Q
noncomputable abbrev EW0:Str->XK->Hp->Prop:=fun _ _ _=>False
theorem Rep.shift{g g':Gh}{S S':Addr->Prop}{H:Hp}{d:D}{v:V}(h1:g'.aS=g.aS)(h2:g'.aT=g.aT)(hS:∀a,S' a->S a)(h:Rep g S H d v)(h3:g'.ns=g.ns:=by rfl):Rep g' S' H d v:=by
 cases d with
 | p x=>exact DatS.kp (Kp.refl _ _) (fun a z=>.inl (hS a z)) h
 | scr ns=>show ns=g'.ns/\v=.ref g'.aS;rw[h1,h3];exact h
 | town=>show ∃a,g'.aT=some a/\v=.ref a;rw[h2];exact h
 | fn=>exact h
 | exc a C=>exact⟨h.1,fun z=>h.2.1 (hS a z),h.2.2⟩
noncomputable def imm:PyData->Bool
 | .list _=>false
 | .dict _=>false
 | .tuple ds=>immAll ds
 | _=>true
where immAll:List PyData->Bool
 | []=>true
 | d::r=>imm d && immAll r
mutual
theorem DatS.imm{S S':Addr->Prop}{H:Hp}:∀{d:PyData} {v:V},imm d=true->DatS S H d v->DatS S' H d v
 | .none,_,_,h=>by simp only[DatS]at h |-;exact h
 | .bool _,_,_,h=>by simp only[DatS]at h |-;exact h
 | .int _,_,_,h=>by simp only[DatS]at h |-;exact h
 | .str _,_,_,h=>by simp only[DatS]at h |-;exact h
 | .list _,_,c,_=>by simp[L2.imm]at c
 | .dict _,_,c,_=>by simp[L2.imm]at c
 | .tuple ds,_,c,h=>by
  simp only[DatS]at h |-;obtain⟨a,xs,e,h1,h2⟩:=h;exact⟨a,xs,e,h1,DatsS.imm (by simpa only[L2.imm]using c) h2⟩
theorem DatsS.imm{S S':Addr->Prop}{H:Hp}:∀{ds:List PyData} {xs:List V},imm.immAll ds=true->DatsS S H ds xs->DatsS S' H ds xs
 | [],_,_,h=>by simp only[DatsS]at h |-;exact h
 | _::_,_,c,h=>by
  simp only[DatsS]at h |-;obtain⟨x,r,e,h1,h2⟩:=h;simp only[L2.imm.immAll,Bool.and_eq_true]at c;exact⟨x,r,e,DatS.imm c.1 h1,DatsS.imm c.2 h2⟩
end
section
variable{K:W.Frag}{Er:Str->Hp->Prop}{X:Cx}{e a b c tg it elt:Expr}{es rest:List Expr}{m ma mb:Env'->Mx D}{mc mt:Env'->Mx Bool}{ms:Env'->Mx (List D)}{mi:Env'->Mx (List PyData)}{pos p2:Pos}
noncomputable def mCall(F:List D->Mx D)(ms:Env'->Mx (List D)):Env'->Mx D:=fun ρ=>ms ρ >>= F
theorem z12{F:List D->Mx D}{EW:Str->XK->Hp->Prop}{E:XK}(hE:∀c H',Er c H'->EW c E H'){σ:St}{H:Hp}{Q:VK}(h:rdG RE K Er (mCall F ms) σ H Q):rdG RA K Er ms σ H fun vs H1=>spD K EW F (vs++[]) H1 Q E:=
 rd1 h (fun _ _ _ _ _ _ _ _ _ _ r=>r) fun g ow ρ n ds vs H0 H1 fr _ r q=>by
  rw[List.append_nil];refine⟨⟨g.aS,g.ns,g.aT,g.S ow,H1⟩,n,ds,rfl,fr.scp,fr.twn,fr.dom,r.imp fun d v z=>z.shift rfl rfl fun a z=>z.elim id fun z=>.inr (.inl z),?_⟩;generalize F ds n=o at q;cases o with
  | ok d n'=>exact fun v H' k t r=>q v H' k t (r.shift rfl rfl fun a z=>.inl z)
  | err c n'=>exact fun H' k t=>hE _ _ (q H' (fr.ext.trans k) t)
  | bad=>exact q
theorem zF{F:List D->Mx D}{EW:Str->XK->Hp->Prop}{E:XK}{CX:CXT}{k:Nat}{f:Addr}{fd:FuncData}{ps:List Str}{x:Str}{p:Pos}(Fn:FnOk X.prog X.w X.K X.mg X.base CX k f fd ps (spD K EW F))(hE:∀c H',Er c H'->EW c E H')(hr:Room k X.A)(hg:Gl X x)(hm:X.mg x=some (.ref f))(hk:W.keepIn X.K (.ref f)=true)(hb:Binds X.K fd ps [])(hx:ub CX X E)
  (ha:DA K Er X (e::es) ms) (hdb:(x == ("__debug__":Str))=false:=by decide) (he:starEach (e::es) X.env=(false,eval e X.env)::starEach es X.env:=by rfl) (hpl:(backTo pos (starEach es X.env)).any (·.1)=false:=by rfl) :
  DE K Er X (.Call (.Name x p) (e::es) [] pos) (mCall F ms):=(z6P Fn hr hg hm hk hb .nil hx ha hdb he hpl).imp fun σ H Q h=>z12 hE h
structure Stp(g:Gh)(ow:Ix->Option Addr)(H:Hp)(ow':Ix->Option Addr)(H':Hp):Prop where
 kp:Kp (g.S ow) H H'
 ow:∀i a,ow' i=some a->(∃j,ow j=some a)\/H a=none
theorem Stp.refl{g:Gh}{ow:Ix->Option Addr}{H:Hp}:Stp g ow H ow H:=⟨Kp.refl _ _,fun i a h=>.inl ⟨i,h⟩⟩
theorem Stp.of{g:Gh}{ow:Ix->Option Addr}{H H':Hp}(k:Kp g.T H H'):Stp g ow H ow H':=⟨k.mono fun a z=>.inr (.inl z),fun i a h=>.inl ⟨i,h⟩⟩
theorem Stp.trans{g:Gh}{ow ow1 ow2:Ix->Option Addr}{H H1 H2:Hp}(dom:∀a,g.S ow1 a->H1 a≠none)(a:Stp g ow H ow1 H1)(b:Stp g ow1 H1 ow2 H2):Stp g ow H ow2 H2:=by
 refine⟨fun c o h k=>?_,fun i x h=>?_⟩
 ·rcases k with k | k
  ·refine b.kp c o (a.kp c o h (.inl k)) (.inl fun z=>?_);rcases z with z | z | ⟨j,z⟩
   ·exact k (.inl z)
   ·exact k (.inr (.inl z))
   ·rcases a.ow j c z with ⟨l,q⟩ | q
    ·exact k (.inr (.inr ⟨l,q⟩))
    ·rw[q]at h;cases h
  ·exact b.kp c o (a.kp c o h (.inr k)) (.inr k)
 ·rcases b.ow i x h with ⟨j,q⟩ | q
  ·exact a.ow j x q
  ·cases z:H x with
   | none=>exact .inr rfl
   | some o=>
    by_cases k:g.S ow x
    ·rcases k with k | k | k
     ·exact absurd q (dom x (.inl k))
     ·exact absurd q (dom x (.inr (.inl k)))
     ·exact .inl k
    ·rw[a.kp x o z (.inl k)]at q;cases q
def AftS(K:W.Frag)(g:Gh)(ow:Ix->Option Addr)(H:Hp)(Er:Str->Hp->Prop)(r:Res Out)(E:Ends):Prop:=match r with
 | .ok (.nx ρ') n'=>∀ow' σ' H',Frm K g ow' ρ' n' σ' H'->Stp g ow H ow' H'->E.nx σ' H'
 | .ok (.bk ρ') n'=>∀ow' σ' H',Frm K g ow' ρ' n' σ' H'->Stp g ow H ow' H'->E.bk σ' H'
 | .ok (.ct ρ') n'=>∀ow' σ' H',Frm K g ow' ρ' n' σ' H'->Stp g ow H ow' H'->E.ct σ' H'
 | .ok (.rt d) n'=>∀v H',Kp g.T g.H0 H'->Twn g H' n'->Rep g g.U H' d v->E.rt v H'
 | .err c n'=>∀H',Kp g.T g.H0 H'->Twn g H' n'->Er c H'
 | .bad=>False
theorem AftS.later{K:W.Frag}{g:Gh}{ow ow1:Ix->Option Addr}{H H1:Hp}{Er:Str->Hp->Prop}{r:Res Out}{E:Ends}(h:AftS K g ow H Er r E)(dom:∀a,g.S ow1 a->H1 a≠none)(s:Stp g ow H ow1 H1):AftS K g ow1 H1 Er r E:=by
 cases r with
 | ok o n=>
  cases o with
  | nx ρ=>exact fun ow' σ' H' f z=>h ow' σ' H' f (s.trans dom z)
  | bk ρ=>exact fun ow' σ' H' f z=>h ow' σ' H' f (s.trans dom z)
  | ct ρ=>exact fun ow' σ' H' f z=>h ow' σ' H' f (s.trans dom z)
  | rt d=>exact h
 | err c n=>exact h
 | bad=>exact h
noncomputable def rdS(K:W.Frag)(Er:Str->Hp->Prop)(m:Env'->Mx Out):TS:=fun E σ H=>∃g ow ρ n,Frm K g ow ρ n σ H/\AftS K g ow H Er (m ρ n) E
noncomputable abbrev DS(K:W.Frag)(Er:Str->Hp->Prop)(X:Cx)(s:Stmt)(m:Env'->Mx Out):Prop:=PS X s (rdS K Er m)
noncomputable abbrev DSs(K:W.Frag)(Er:Str->Hp->Prop)(X:Cx)(s:List Stmt)(m:Env'->Mx Out):Prop:=PSs X s (rdS K Er m)
theorem rs1{γ δ:Type}{R:RG γ δ}{m:Env'->Mx γ}{f:Env'->γ->Mx Out}{σ:St}{H:Hp}{E:Ends}{Z:δ->Hp->Prop}(h:rdS K Er (fun ρ=>m ρ >>= f ρ) E σ H)
  (k:∀g ow ρ n n1 x v H1,Frm K g ow ρ n σ H->Kp g.T H H1->Frm K g ow ρ n1 σ H1->R g (g.S ow) H H1 x v->AftS K g ow H1 Er (f ρ x n1) E->Z v H1):rdG R K Er m σ H Z:=by
 obtain⟨g,ow,ρ,n,fr,q⟩:=h;refine⟨g,ow,ρ,n,fr,?_⟩;dsimp only at q;rw[Mx.bind_def]at q;cases o:m ρ n with
 | ok x n1=>rw[o]at q;exact fun v H1 k1 t1 r1=>k g ow ρ n n1 x v H1 fr k1 (fr.kp k1 t1) r1 (AftS.later q (fr.kp k1 t1).dom (Stp.of k1))
 | err c n1=>rw[o]at q;exact q
 | bad=>rw[o]at q;exact q
theorem rs0{γ δ:Type}{R:RG γ δ}{m:Env'->Mx γ}{f:Env'->γ->Mx Out}{σ:St}{H:Hp}{E:Ends}{Z:δ->Hp->Prop}(h:rdS K Er (fun ρ=>m ρ >>= f ρ) E σ H)
  (k:∀g ow ρ n n1 x v H1,Frm K g ow ρ n σ H->Kp g.T H H1->Frm K g ow ρ n1 σ H1->R g (g.S ow) H H1 x v->AftS K g ow H Er (f ρ x n1) E->Z v H1):rdG R K Er m σ H Z:=by
 obtain⟨g,ow,ρ,n,fr,q⟩:=h;refine⟨g,ow,ρ,n,fr,?_⟩;dsimp only at q;rw[Mx.bind_def]at q;cases o:m ρ n with
 | ok x n1=>rw[o]at q;exact fun v H1 k1 t1 r1=>k g ow ρ n n1 x v H1 fr k1 (fr.kp k1 t1) r1 q
 | err c n1=>rw[o]at q;exact q
 | bad=>rw[o]at q;exact q
noncomputable def sNil:Env'->Mx Out:=fun ρ=>pure (.nx ρ)
noncomputable def sSeq(a b:Env'->Mx Out):Env'->Mx Out:=fun ρ=>a ρ >>= fun o=>match o with
 | .nx ρ'=>b ρ'
 | o=>pure o
variable{st:Stmt}{sts tts:List Stmt}{sa sb:Env'->Mx Out}
theorem yB:DSs K Er X [] sNil:=pss_nil.imp fun σ H E ⟨g,ow,ρ,n,f,q⟩=>q ow σ H f Stp.refl
theorem z5D{E:Ends}{σ:St}{H:Hp}(h:rdS K Er (sSeq sa sb) E σ H):tSeq (rdS K Er sa) (rdS K Er sb) E σ H:=by
 obtain⟨g,ow,ρ,n,f,q⟩:=h;refine⟨g,ow,ρ,n,f,?_⟩;unfold sSeq at q;rw[Mx.bind_def]at q;cases o:sa ρ n with
 | ok x n1=>
  rw[o]at q;cases x with
  | nx ρ'=>exact fun ow' σ' H' f' z=>⟨g,ow',ρ',n1,f',AftS.later q f'.dom z⟩
  | bk ρ'=>exact q
  | ct ρ'=>exact q
  | rt d=>exact q
 | err c n1=>rw[o]at q;exact q
 | bad=>rw[o]at q;exact q
theorem zC(h1:DS K Er X st sa)(h2:DSs K Er X sts sb):DSs K Er X (st::sts) (sSeq sa sb):=(yf h1 h2).imp fun σ H E h=>z5D h
theorem zI(h1:DS K Er X st sa):DSs K Er X [st] sa:=xz h1
noncomputable def sRet(m:Env'->Mx D):Env'->Mx Out:=fun ρ=>m ρ >>= fun d=>pure (.rt d)
theorem Rep1.rep{g:Gh}{ow:Ix->Option Addr}{H:Hp}{d:D}{v:V}(z:Rep1 g (g.S ow) H d v):Rep g g.U H d v:=by
 cases d with
 | p x=>
  show DatS g.U H x v;have z:Dat1 g.U (g.S ow) H x v:=z;have hUS:∀a,g.U a->g.S ow a:=Gh.us;cases x<;>simp only[Dat1]at z
  case list=>obtain⟨a,xs,e,h0,h1,h2⟩:=z;simp only[DatS];exact⟨a,xs,e,h0,h1,DatsS.kp (Kp.refl _ _) (fun a z=>.inl (hUS a z)) h2⟩
  case dict=>obtain⟨a,xs,e,h0,h1,h2⟩:=z;simp only[DatS];exact⟨a,xs,e,h0,h1,DctS.kp (Kp.refl _ _) (fun a z=>.inl (hUS a z)) h2⟩
  all_goals exact DatS.kp (Kp.refl _ _) (fun a z=>.inl (hUS a z)) z
 | scr=>exact z
 | town=>exact z
 | fn=>exact z
 | exc a C=>exact⟨z.1,fun y=>z.2.1 (Gh.us a y),z.2.2⟩
theorem zQ(h:DW K Er X e m):DS K Er X (.Return (some e) pos) (sRet m):=(z0d h).imp fun σ H E h=>rs1 h fun g ow ρ n n1 x v H1 f k f1 r q=>q v H1 f1.ext f1.twn (Rep1.rep r)
noncomputable def sIf(c:Env'->Mx Bool)(a b:Env'->Mx Out):Env'->Mx Out:=fun ρ=>c ρ >>= fun t=>if t=true then a ρ else b ρ
theorem xL(hc:DT K Er X c mc)(ha:DSs K Er X sts sa)(hb:DSs K Er X tts sb):DS K Er X (.If c sts tts pos) (sIf mc sa sb):=(z6v hc ha hb).imp fun σ H E h=>rs1 h fun g ow ρ n n1 x v H1 f k f1 r q=>by
 cases r;cases x with
 | true=>exact ite_tt ⟨g,ow,ρ,n1,f1,q⟩
 | false=>exact ite_ff ⟨g,ow,ρ,n1,f1,q⟩
noncomputable def sExpr(m:Env'->Mx D):Env'->Mx Out:=fun ρ=>m ρ >>= fun _=>pure (.nx ρ)
theorem yu(h:DE K Er X e m)(hs:swapsWith e none pos.line X.env=pure false:=by rfl):DS K Er X (.Expr e pos) (sExpr m):=(xW h hs).imp fun σ H E h=>rs1 h fun g ow ρ n n1 x v H1 f k f1 r q=>q ow σ H1 f1 Stp.refl
noncomputable def z2D:Env'->Mx Out:=fun _=>Mx.bad
theorem z07:DS K Er X st z2D:=ps_never.imp fun σ H E ⟨g,ow,ρ,n,f,q⟩=>q
noncomputable def putO(ow:Ix->Option Addr)(i:Nat)(o:Option Addr):Ix->Option Addr:=fun j=>if j.1=i then(if j.2=0 then o else none)else ow j
theorem z0S{ow:Ix->Option Addr}{i:Nat}{o:Option Addr}{j:Ix}(h:j.1≠i):putO ow i o j=ow j:=if_neg h
theorem z3J{ow:Ix->Option Addr}{i:Nat}{o:Option Addr}:putO ow i o (i,0)=o:=by unfold putO;rw[if_pos rfl,if_pos rfl]
theorem ya{ow:Ix->Option Addr}{i:Nat}{j:Ix}{a:Addr}(h:putO ow i none j=some a):j.1≠i/\ow j=some a:=by
 unfold putO at h;split at h
 ·split at h<;>cases h
 next c=>exact⟨c,h⟩
theorem yG{ow:Ix->Option Addr}{i:Nat}{p:Addr}{j:Ix}{a:Addr}(h:putO ow i (some p) j=some a):(j=(i,0)/\a=p)\/(j.1≠i/\ow j=some a):=by
 unfold putO at h;split at h
 next c=>
  split at h
  next c2=>cases h;exact .inl ⟨Prod.ext c c2,rfl⟩
  next=>cases h
 next c=>exact .inr ⟨c,h⟩
theorem zi{α:Type}{l:List α}{i j:Nat}{x:α}:(l.set i x)[j]?=if j=i/\i<l.length then some x else l[j]?:=by
 rw[List.getElem?_set];by_cases h:i=j
 ·subst h;by_cases hi:i<l.length
  ·simp[hi]
  ·simp[hi]
 ·rw[if_neg h,if_neg (fun z=>h z.1.symm)]
theorem Frm.setVal{g:Gh}{ow:Ix->Option Addr}{ρ:Env'}{n:Nat}{σ:St}{H:Hp}{d:D}{v:V}{i:Nat}(f:Frm K g ow ρ n σ H)(r:Rep g (g.S ow) H d v):Frm K g (putO ow i none) (ρ.set i (some (Sl.val d))) n (σ.set i (some v)) H:=by
 have hS:∀a,g.S (putO ow i none) a->g.S ow a:=fun a z=>by
  rcases z with z | z | ⟨j,z⟩
  ·exact .inl z
  ·exact .inr (.inl z)
  ·exact .inr (.inr ⟨j,(ya z).2⟩)
 have mv:∀{d v},Rep g (g.S ow) H d v->Rep g (g.S (putO ow i none)) H d v:=fun z=>z.shift rfl rfl hS;refine⟨f.scr,f.twn,f.sub,f.ext,fun j d' e=>?_,fun j x e=>?_,fun j kl e=>?_,fun j a e=>?_,fun j k a h1 h2=>?_,by simp[f.len]⟩
 ·rw[zi]at e;split at e
  next c=>cases e;exact⟨v,by rw[zi,if_pos ⟨c.1,by rw[<-f.len];exact c.2⟩],mv r⟩
  next c=>
   obtain⟨v',e1,r1⟩:=f.val j d' e;exact⟨v',by rw[zi,if_neg (fun z=>c ⟨z.1,by rw[f.len];exact z.2⟩)];exact e1,mv r1⟩
 ·rw[zi]at e;split at e
  next c=>cases e
  next c=>
   obtain⟨a,e0,e1,r1⟩:=f.own j x e;have hj:j≠i:=fun z=>c ⟨z,by
    have:=(List.getElem?_eq_some_iff.mp e).1;rw[<-z];exact this⟩
   refine⟨a,by rw[z0S hj];exact e0,by rw[zi,if_neg (fun z=>hj z.1)];exact e1,?_⟩;exact r1.move (Kp.refl _ _) (fun a z=>.inl (hS a z)) fun b _ _ hb=>⟨fun o z=>z,hb⟩
 ·rw[zi]at e;split at e
  next c=>cases e
  next c=>
   obtain⟨v',e1,r1⟩:=f.dp j kl e;have hj:j≠i:=fun z=>c ⟨z,by
    have:=(List.getElem?_eq_some_iff.mp e).1;rw[<-z];exact this⟩
   exact⟨v',by rw[zi,if_neg (fun z=>hj z.1)];exact e1,r1.move (fun l a z=>by rw[z0S hj];exact z) (fun _ _ _ _ z=>z) (Kp.refl _ _) fun a z=>.inl (hS a z)⟩
 ·obtain⟨h1,h2,h3,h4⟩:=f.owi j a (ya e).2;exact⟨h1,h2,h3,by rw[List.length_set];exact h4⟩
 ·exact f.inj j k a (ya h1).2 (ya h2).2
theorem Stp.put{g:Gh}{ow:Ix->Option Addr}{i:Nat}{H:Hp}:Stp g ow H (putO ow i none) H:=⟨Kp.refl _ _,fun j a h=>.inl ⟨j,(ya h).2⟩⟩
noncomputable def sSet(i:Nat)(m:Env'->Mx D):Env'->Mx Out:=fun ρ=>m ρ >>= fun d=>pure (.nx (ρ.set i (some (Sl.val d))))
theorem y4{i:Nat}{x:Str}{pos':Pos}(hN:X.N.Nodup)(hi:X.N[i]?=some x)(hx:Loc X.env.scope x)(he:DE K Er X e m)(hs:swapsWith e (some (.Name x pos')) pos.line X.env=pure false:=by rfl)(hf:X.fn x=true\/X.env.scope.names.lookup x=some .local:=by first | exact .inl rfl | exact .inr rfl | assumption):
  DS K Er X (.Assign [.Name x pos'] e pos) (sSet i m):=(z2L hN hi hx he hs hf).imp fun σ H E h=>rs1 h fun g ow ρ n n1 d v H1 f k f1 r q=>q _ _ H1 (f1.setVal r) (Stp.put)
end
end L2
namespace L2
open PySem PySem.Spec PyProof.Rows
section
variable{K:W.Frag}{Er:Str->Hp->Prop}{X:Cx}{e a b c tg it elt:Expr}{es rest:List Expr}{m ma mb:Env'->Mx D}{mc mt:Env'->Mx Bool}{ms:Env'->Mx (List D)}{mi:Env'->Mx (List PyData)}{mf:Env'->Mx PyData}{pos p2:Pos}{st:Stmt}{sts tts:List Stmt}{sa sb:Env'->Mx Out}
variable{g:Gh}{ow:Ix->Option Addr}{ρ:Env'}{n n':Nat}{σ:St}{H H' H1:Hp}
theorem Frm.h0(f:Frm K g ow ρ n σ H){p:Addr}(h:H p=none):g.H0 p=none:=xj f.ext f.twn h
theorem Frm.setOwn{x:PyData}{p:Addr}{i:Nat}(f:Frm K g ow ρ n σ H)(hp:H p=none)(k:Kp g.T H H1)(t:Twn g H1 n')(d:Dat1 N0 (fun b=>g.S ow b\/b=p) H1 x (.ref p))(hi:i<ρ.length)(hx:Pl H1 p):Frm K g (putO ow i (some p)) (ρ.set i (some (Sl.own x))) n' (σ.set i (some (.ref p))) H1:=by
 have hS:∀a,g.S (putO ow i (some p)) a->g.S ow a\/H a=none:=fun a z=>by
  rcases z with z | z | ⟨j,z⟩
  ·exact .inl (.inl z)
  ·exact .inl (.inr (.inl z))
  ·rcases yG z with ⟨_,rfl⟩ | ⟨_,z⟩
   ·exact .inr hp
   ·exact .inl (.inr (.inr ⟨j,z⟩))
 have kS:Kp (g.S ow) H H1:=k.mono Gh.ts;have h0:=f.h0 hp;have hT:g.aT≠some p:=fun z=>by rw[f.twn p z]at hp;cases hp
 have hU:¬g.U p:=fun z=>z.elim (fun z=>f.sub p z h0) hT;have hS2:∀a,g.S (putO ow i (some p)) a->(g.S ow a\/a=p)\/H1 a=none:=fun a z=>by
  rcases z with z | z | ⟨j,z⟩
  ·exact .inl (.inl (.inl z))
  ·exact .inl (.inl (.inr (.inl z)))
  ·rcases yG z with ⟨_,rfl⟩ | ⟨_,z⟩
   ·exact .inl (.inr rfl)
   ·exact .inl (.inl (.inr (.inr ⟨j,z⟩)))
 refine⟨f.scr,t,f.sub,f.ext.trans k,fun j d' e=>?_,fun j y e=>?_,fun j kl e=>?_,fun j a e=>?_,fun j l a h1 h2=>?_,by simp[f.len]⟩
 ·rw[zi]at e;split at e
  next c=>cases e
  next c=>
   obtain⟨v',e1,r1⟩:=f.val j d' e;refine⟨v',by rw[zi,if_neg (fun z=>c ⟨z.1,by rw[f.len];exact z.2⟩)];exact e1,r1.kp kS hS⟩
 ·rw[zi]at e;split at e
  next c=>
   cases e;refine⟨p,by rw[c.1,z3J],by rw[zi,if_pos ⟨c.1,by rw[<-f.len];exact c.2⟩],?_⟩;exact d.move (Kp.refl _ _) hS2 fun b e _ _=>⟨fun o z=>z,by cases e;exact hU⟩
  next c=>
   obtain⟨a,e0,e1,r1⟩:=f.own j y e;have hj:j≠i:=fun z=>c ⟨z,hi⟩;refine⟨a,by rw[z0S hj];exact e0,by rw[zi,if_neg (fun z=>hj z.1)];exact e1,?_⟩;exact r1.move kS hS fun b e _ hb=>⟨fun o z=>k _ _ z (.inl fun z=>hb (.inr z)),hb⟩
 ·rw[zi]at e;split at e
  next c=>cases e
  next c=>
   obtain⟨v',e1,r1⟩:=f.dp j kl e;have hj:j≠i:=fun z=>c ⟨z,hi⟩;exact⟨v',by rw[zi,if_neg (fun z=>hj z.1)];exact e1,r1.move (fun l a z=>by rw[z0S hj];exact z) (fun l a z o q=>k _ _ q (.inl (f.owi _ a z).2.2.1)) kS hS⟩
 ·rcases yG e with ⟨rfl,rfl⟩ | ⟨_,e⟩
  ·exact⟨h0,hx,hT,by rw[List.length_set];exact hi⟩
  ·obtain⟨h1,h2,h3,h4⟩:=f.owi j a e;exact⟨h1,h2.kp k h3,h3,by rw[List.length_set];exact h4⟩
 ·rcases yG h1 with ⟨z1,z2⟩ | ⟨_,g1⟩
  ·rcases yG h2 with ⟨z3,_⟩ | ⟨_,g2⟩
   ·rw[z1,z3]
   ·exact absurd hp (z2▸(f.owi l _ g2).2.1.some)
  ·rcases yG h2 with ⟨_,z2⟩ | ⟨_,g2⟩
   ·exact absurd hp (z2▸(f.owi j _ g1).2.1.some)
   ·exact f.inj j l a g1 g2
theorem Stp.own{i:Nat}{p:Addr}(hp:H p=none)(k:Kp g.T H H1):Stp g ow H (putO ow i (some p)) H1:=⟨k.mono fun a z=>.inr (.inl z),fun j a h=>by
 rcases yG h with ⟨_,rfl⟩ | ⟨_,h⟩
 ·exact .inr hp
 ·exact .inl ⟨j,h⟩⟩
noncomputable def sOwn(i:Nat)(m:Env'->Mx PyData):Env'->Mx Out:=fun ρ=>m ρ >>= fun x=>if i<ρ.length then pure (.nx (ρ.set i (some (Sl.own x))))else Mx.bad
theorem z50{i:Nat}{E:Ends}(h:rdS K Er (sOwn i mf) E σ H):rdG RF K Er mf σ H fun v H1=>E.nx (σ.set i (some v)) H1:=by
 refine rs0 h fun g ow ρ n n1 x v H1 f k f1 r q=>?_;obtain⟨p,rfl,hp,hpl,d⟩:=r;split at q
 next hi=>exact q _ _ _ (f.setOwn hp k f1.twn d hi hpl) (Stp.own hp k)
 next=>exact q.elim
theorem uw{i:Nat}{x:Str}{pos':Pos}(hN:X.N.Nodup)(hi:X.N[i]?=some x)(hx:Loc X.env.scope x)(he:DF K Er X e mf)(hs:swapsWith e (some (.Name x pos')) pos.line X.env=pure false:=by rfl)(hf:X.fn x=true\/X.env.scope.names.lookup x=some .local:=by first | exact .inl rfl | exact .inr rfl | assumption):
  DS K Er X (.Assign [.Name x pos'] e pos) (sOwn i mf):=(z2L hN hi hx he hs hf).imp fun σ H E h=>z50 h
theorem u8{i:Nat}{N N':List Str}{sc scope:Scope}{x y:Str}{ifs:List Expr}{px py spos:Pos}{tc:TT}(hc:X.calm=true)(hN:X.N=N)(hsc:X.env.scope=sc)(h:wf N sc scope x N'=true)(hnd:X.N.Nodup)(hy:X.N[i]?=some y)(hl:X.env.scope.names.lookup y=some .local)
  (htc:∀σ H Q,rdG RT K Er mc σ H Q->tc σ H Q) (hi:DI true K Er X (.Name x px) it mi) (hf:∀C s H fp,PF (zO X scope N' C s H fp) ifs tc) (he:∀C s H fp,DE K Er (zO X scope N' C s H fp) elt m)
  (hsw:swapsWith (.ListComp elt [⟨.Name x px,it,ifs,0⟩] scope pos) (some (.Name y py)) spos.line X.env=pure true:=by rfl)
  (hs:∀x,foldedSetIterable it X.env x=pure x:=by intro _;rfl):DS K Er X (.Assign [.Name y py] (.ListComp elt [⟨.Name x px,it,ifs,0⟩] scope pos) spos) (sSet i (mP (mComp mi mc m))):=
 (z4D hc hN hsc h hnd hy hl hi hf he hsw hs).imp fun σ H E h=>z0B rfl htc (by
  have e:sSet i (mP (mComp mi mc m))=fun ρ=>mComp mi mc m ρ >>= fun z=>pure (.nx (ρ.set i (some (Sl.val (.p z))))):=by
   funext ρ;unfold sSet mP;rw[yP];rfl
  rw[e]at h;refine rs1 h fun g ow ρ n n1 z v H1 f k f1 r q=>?_;obtain⟨p,rfl,hp,_,d⟩:=r;have hn:¬g.S ow p:=fun z=>f.dom p z hp;refine q _ _ H1 (f1.setVal ?_) Stp.put;show DatS _ _ z _;cases z<;>simp only[Dat1,DatS]at d |-
  case list=>obtain⟨b,xs,e,_,h1,h2⟩:=d;cases e;exact⟨p,xs,rfl,hn,h1,DatsS.kp (Kp.refl _ _) (fun _ z=>.inl (.inl z)) h2⟩
  case dict=>obtain⟨b,xs,e,_,h1,h2⟩:=d;cases e;exact⟨p,xs,rfl,hn,h1,DctS.kp (Kp.refl _ _) (fun _ z=>.inl (.inl z)) h2⟩
  case tuple=>obtain⟨b,xs,e,h1,h2⟩:=d;exact⟨b,xs,e,h1,DatsS.kp (Kp.refl _ _) (fun _ z=>.inl (.inl z)) h2⟩
  all_goals cases d)
noncomputable def ownL(ρ:Env')(i:Nat):Option (List PyData):=match ρ[i]? with
 | some (some (Sl.own (.list l)))=>some l
 | _=>none
noncomputable def ownD(ρ:Env')(i:Nat):Option (List (PyData×PyData)):=match ρ[i]? with
 | some (some (Sl.own (.dict l)))=>some l
 | _=>none
theorem xV{i:Nat}{l:List PyData}(h:ownL ρ i=some l):ρ[i]?=some (some (Sl.own (.list l))):=by
 unfold ownL at h;split at h
 next l' e=>cases h;exact e
 next=>cases h
theorem z1g{i:Nat}{l:List (PyData×PyData)}(h:ownD ρ i=some l):ρ[i]?=some (some (Sl.own (.dict l))):=by
 unfold ownD at h;split at h
 next l' e=>cases h;exact e
 next=>cases h
theorem Frm.ownLst{i:Nat}{l:List PyData}(f:Frm K g ow ρ n σ H)(h:ownL ρ i=some l):∃a xs,ow (i,0)=some a/\σ[i]?=some (some (.ref a))/\H a=some (.lst xs)/\DatsS (g.S ow) H l xs:=by
 obtain⟨a,e1,e2,d⟩:=f.own i _ (xV h);simp only[Dat1]at d;obtain⟨b,xs,e,_,h1,h2⟩:=d;cases e;exact⟨a,xs,e1,e2,h1,h2⟩
theorem Frm.kpOwn{i:Ix}{a:Addr}{o:HO}(f:Frm K g ow ρ n σ H)(hi:ow i=some a)(hm:∀xs,H a≠some (.tup xs)):Kp (g.S ow) H (upd H a o):=fun b u h k=>by
 by_cases e:b=a
 ·subst e;rcases k with k | ⟨xs,rfl⟩
  ·exact absurd (.inr (.inr ⟨i,hi⟩)) k
  ·exact absurd h (hm xs)
 ·rw[z9 e];exact h
theorem Frm.updOwn{i:Nat}{a:Addr}{x x':PyData}{o:HO}(f:Frm K g ow ρ n σ H)(he:ρ[i]?=some (some (Sl.own x)))(hi:ow (i,0)=some a)(hm:∀xs,H a≠some (.tup xs))(d:Dat1 N0 (g.S ow) (upd H a o) x' (.ref a))(hpl:∀ob u,o≠.frz ob u:=by intro _ _ z;cases z):Frm K g ow (ρ.set i (some (Sl.own x'))) n σ (upd H a o):=by
 have kS:=f.kpOwn (o:=o) hi hm;obtain⟨h0,h1,h2,h3⟩:=f.owi _ a hi;have hU:¬g.U a:=fun z=>z.elim (fun z=>f.sub a z h0) h2;obtain⟨a',ea,es,_⟩:=f.own i x he;rw[hi]at ea;cases ea;refine⟨f.scr,fun b e=>?_,f.sub,fun b u h k=>?_,fun j d' e=>?_,fun j y e=>?_,fun j kl e=>?_,fun j b e=>?_,f.inj,by simp[f.len]⟩
 ·rw[z9 (show b≠a from fun z=>h2 (by rw[<-z];exact e))];exact f.twn b e
 ·rw[z9 (zL h h0)];exact f.ext b u h k
 ·rw[zi]at e;split at e
  next c=>cases e
  next c=>
   obtain⟨v',e1,r1⟩:=f.val j d' e;exact⟨v',e1,r1.kp kS fun _ z=>.inl z⟩
 ·rw[zi]at e;split at e
  next c=>
   cases e;rw[c.1];exact⟨a,hi,es,d.move (Kp.refl _ _) (fun _ z=>.inl z) fun b e _ _=>⟨fun o z=>z,by cases e;exact hU⟩⟩
  next c=>
   obtain⟨b,e0,e1,r1⟩:=f.own j y e;have hj:j≠i:=fun z=>c ⟨z,h3⟩;have hb:b≠a:=fun z=>hj (congrArg Prod.fst (f.inj (j,0) (i,0) a (z▸e0) hi));refine⟨b,e0,e1,r1.move kS (fun _ z=>.inl z) fun q e _ hq=>⟨fun o z=>by cases e;rw[z9 hb];exact z,hq⟩⟩
 ·rw[zi]at e;split at e
  next c=>cases e
  next c=>
   obtain⟨v',e1,r1⟩:=f.dp j kl e;have hj:j≠i:=fun z=>c ⟨z,h3⟩;exact⟨v',e1,r1.move (fun l a z=>z) (fun l b z o q=>by rw[z9 (show b≠a from fun y=>hj (congrArg Prod.fst (f.inj (j,l) (i,0) a (y▸z) hi)))];exact q) kS fun _ z=>.inl z⟩
 ·obtain⟨q0,q1,q2,q3⟩:=f.owi j b e;refine⟨q0,?_,q2,by rw[List.length_set];exact q3⟩;by_cases z:b=a
  ·subst z;exact Pl.upd hpl
  ·obtain⟨o,e,n⟩:=q1;exact⟨o,by rw[z9 z];exact e,n⟩
theorem Stp.upd{i:Ix}{a:Addr}{o:HO}(f:Frm K g ow ρ n σ H)(hi:ow i=some a)(hm:∀xs,H a≠some (.tup xs)):Stp g ow H ow (upd H a o):=⟨f.kpOwn hi hm,fun j b h=>.inl ⟨j,h⟩⟩
noncomputable def sApp(i:Nat)(m:Env'->Mx D):Env'->Mx Out:=fun ρ=>Mx.opt (ownL ρ i) >>= fun l=>m ρ >>= fun d=>Mx.opt ((onP some d).bind fun y=>if l.length<lim then some (Out.nx (ρ.set i (some (Sl.own (.list (l++[y]))))))else none)
theorem uL{α:Type}{o:Option α}{f:α->Mx Out}{E:Ends}(h:AftS K g ow H Er ((Mx.opt o >>= f) n) E):∃a,o=some a/\AftS K g ow H Er (f a n) E:=by
 cases o with
 | none=>exact h.elim
 | some a=>exact⟨a,rfl,h⟩
theorem rs_o{o:Option Out}{E:Ends}(h:AftS K g ow H Er (Mx.opt o n) E):∃a,o=some a/\AftS K g ow H Er (.ok a n) E:=by
 cases o with
 | none=>exact h.elim
 | some a=>exact⟨a,rfl,h⟩
theorem xw{γ δ:Type}{R:RG γ δ}{m:Mx γ}{f:γ->Mx Out}{E:Ends}{Z:δ->Hp->Prop}(fr:Frm K g ow ρ n σ H)(q:AftS K g ow H Er ((m >>= f) n) E)
  (k:∀n1 x v H1,Kp g.T H H1->Frm K g ow ρ n1 σ H1->R g (g.S ow) H H1 x v->AftS K g ow H1 Er (f x n1) E->Z v H1):AftG (R g (g.S ow)) g Er H (m n) Z:=by
 rw[Mx.bind_def]at q;cases o:m n with
 | ok x n1=>rw[o]at q;exact fun v H1 k1 t1 r1=>k n1 x v H1 k1 (fr.kp k1 t1) r1 (AftS.later q (fr.kp k1 t1).dom (Stp.of k1))
 | err c n1=>rw[o]at q;exact q
 | bad=>rw[o]at q;exact q
theorem not_tup{xs:List V}{a:Addr}(h:H a=some (.lst xs)):∀ys,H a≠some (.tup ys):=fun ys z=>by rw[h]at z;cases z
theorem z88{i:Nat}(h:PE X e (tBM X.K "list" z0T (tVar i) (xb (rdG RE K Er m) tNil)))(hs:swapsWith e none pos.line X.env=pure false:=by rfl):DS K Er X (.Expr e pos) (sApp i m):=(xW h hs).imp fun σ H E h=>by
 obtain⟨g,ow,ρ,n,f,q⟩:=h;obtain⟨l,el,q⟩:=uL q;obtain⟨a,xs,e1,e2,e3,e4⟩:=f.ownLst el;refine⟨.ref a,e2,.inl ⟨rfl,xs,SqL.of e3⟩,g,ow,ρ,n,f,xw f q fun n1 d v H1 k f1 r q=>?_⟩;obtain⟨out,eo,q⟩:=rs_o q;obtain⟨y,ey,eo⟩:=Option.bind_eq_some_iff.mp eo;obtain⟨y',rfl,ey⟩:=zc ey;cases ey;split at eo
 next hl=>
  cases eo;obtain⟨a',xs',g1,g2,g3,g4⟩:=f1.ownLst el;rw[e1]at g1;cases g1;refine⟨a,xs',v,rfl,rfl,g3,Nat.lt_of_lt_of_le (by rw[<-g4.length];exact hl) (y3 (Nat.le_refl _)),?_⟩;have kS:=f1.kpOwn (o:=.lst (xs'++[v])) e1 (not_tup g3);refine q _ _ _ (f1.updOwn (xV el) e1 (not_tup g3) ?_) (Stp.upd f1 e1 (not_tup g3));simp only[Dat1];exact⟨a,_,rfl,id,z6,(DatsS.kp kS (fun _ z=>.inl z) g4).append (.cons (DatS.kp kS (fun _ z=>.inl z) r) .nil)⟩
 next=>cases eo
end
section
variable{K:W.Frag}{Er:Str->Hp->Prop}{X:Cx}{e a b c tg it elt:Expr}{es rest:List Expr}{m ma mb:Env'->Mx D}{mc mt:Env'->Mx Bool}{ms:Env'->Mx (List D)}{mi:Env'->Mx (List PyData)}{mf:Env'->Mx PyData}{pos p2:Pos}{st:Stmt}{sts tts:List Stmt}{sa sb:Env'->Mx Out}
variable{g:Gh}{ow:Ix->Option Addr}{ρ:Env'}{n n':Nat}{σ:St}{H H' H1:Hp}
noncomputable def sExt(i:Nat)(m:Env'->Mx D):Env'->Mx Out:=fun ρ=>Mx.opt (ownL ρ i) >>= fun l=>m ρ >>= fun d=>Mx.opt ((onP (fun x=>match x with | .list z=>some z | _=>none) d).bind fun z=>if l.length+z.length<=lim then some (Out.nx (ρ.set i (some (Sl.own (.list (l++z))))))else none)
theorem z6O{i:Nat}(h:PE X e (tBM X.K "list" z4p (tVar i) (xb (rdG RE K Er m) tNil)))(hs:swapsWith e none pos.line X.env=pure false:=by rfl):DS K Er X (.Expr e pos) (sExt i m):=(xW h hs).imp fun σ H E h=>by
 obtain⟨g,ow,ρ,n,f,q⟩:=h;obtain⟨l,el,q⟩:=uL q;obtain⟨a,xs,e1,e2,e3,e4⟩:=f.ownLst el;refine⟨.ref a,e2,.inl ⟨rfl,xs,SqL.of e3⟩,g,ow,ρ,n,f,xw f q fun n1 d v H1 k f1 r q=>?_⟩;obtain⟨out,eo,q⟩:=rs_o q;obtain⟨y,ey,eo2⟩:=Option.bind_eq_some_iff.mp eo;obtain⟨y',rfl,ey2⟩:=zc ey;cases y'<;>simp only at ey2<;>cases ey2;split at eo2
 next hl=>
  cases eo2;obtain⟨a',xs',g1,g2,g3,g4⟩:=f1.ownLst el;rw[e1]at g1;cases g1;obtain⟨b,zs,rfl,hb,b1,b2⟩:=(show ∃b zs,v=.ref b/\¬g.S ow b/\H1 b=some (.lst zs)/\DatsS (g.S ow) H1 y zs by simpa only[Rep,DatS]using r);refine⟨a,b,xs',zs,rfl,rfl,g3,b1,y3 (by rw[<-g4.length,<-b2.length];exact hl),?_⟩;have kS:=f1.kpOwn (o:=.lst (xs'++zs)) e1 (not_tup g3);refine q _ _ _ (f1.updOwn (xV el) e1 (not_tup g3) ?_) (Stp.upd f1 e1 (not_tup g3));simp only[Dat1];exact⟨a,_,rfl,id,z6,(DatsS.kp kS (fun _ z=>.inl z) g4).append (DatsS.kp kS (fun _ z=>.inl z) b2)⟩
 next=>cases eo2
theorem DatsS.erase{S:Addr->Prop}:∀{ds:List PyData} {xs:List V} (k:Nat),DatsS S H ds xs->DatsS S H (ds.eraseIdx k) (xs.eraseIdx k)
 | [],_,_,h=>by simp only[DatsS]at h;subst h;exact .nil
 | _::_,_,0,h=>by
  simp only[DatsS]at h;obtain⟨x,r,rfl,h1,h2⟩:=h;exact h2
 | _::_,_,k+1,h=>by
  simp only[DatsS]at h;obtain⟨x,r,rfl,h1,h2⟩:=h;exact .cons h1 (DatsS.erase k h2)
noncomputable def z2O(i j:Nat)(m:Env'->Mx D):Env'->Mx Out:=fun ρ=>Mx.opt (ownL ρ j) >>= fun l=>m ρ >>= fun d=>Mx.opt ((onP (fun x=>match x with | .int k=>some k | _=>none) d).bind fun k=>if -1000000<=k/\k<=1000000/\i≠j then(seqIndex? k l.length).bind fun p=>l[p]?.map fun y=>Out.nx ((ρ.set j (some (Sl.own (.list (l.eraseIdx p))))).set i (some (Sl.val (.p y))))else none)
theorem z5L{i j:Nat}{x:Str}{pos':Pos}(hN:X.N.Nodup)(hi:X.N[i]?=some x)(hx:Loc X.env.scope x)(h:PE X e (tBM X.K "list" z4H (tVar j) (xb (rdG RE K Er m) tNil)))(hs:swapsWith e (some (.Name x pos')) pos.line X.env=pure false:=by rfl)(hf:X.fn x=true\/X.env.scope.names.lookup x=some .local:=by first | exact .inl rfl | exact .inr rfl | assumption):
  DS K Er X (.Assign [.Name x pos'] e pos) (z2O i j m):=(z2L hN hi hx h hs hf).imp fun σ H E h=>by
 obtain⟨g,ow,ρ,n,f,q⟩:=h;obtain⟨l,el,q⟩:=uL q;obtain⟨a,xs,e1,e2,e3,e4⟩:=f.ownLst el;refine⟨.ref a,e2,.inl ⟨rfl,xs,SqL.of e3⟩,g,ow,ρ,n,f,xw f q fun n1 d v H1 k f1 r q=>?_⟩;obtain⟨out,eo,q⟩:=rs_o q;obtain⟨y,ey,eo2⟩:=Option.bind_eq_some_iff.mp eo;obtain⟨y',rfl,ey2⟩:=zc ey;cases y'<;>simp only at ey2<;>cases ey2;split at eo2
 next hl=>
  obtain⟨p,ep,eo3⟩:=Option.bind_eq_some_iff.mp eo2;obtain⟨z,ez,eo4⟩:=Option.map_eq_some_iff.mp eo3;subst eo4;obtain⟨a',xs',g1,g2,g3,g4⟩:=f1.ownLst el;rw[e1]at g1;cases g1;obtain⟨u,eu,ru⟩:=g4.get ez;refine⟨a,xs',_,p,u,rfl,by rw[show v=.int _ by simpa only[Rep,DatS]using r],g3,by omega,by omega,by rw[<-g4.length];exact ep,eu,?_⟩;have kS:=f1.kpOwn (o:=.lst (xs'.eraseIdx p)) e1 (not_tup g3);have f2:=f1.updOwn (o:=.lst (xs'.eraseIdx p)) (x':=.list (l.eraseIdx p)) (xV el) e1 (not_tup g3) (by
   simp only[Dat1];exact⟨a,_,rfl,id,z6,DatsS.kp kS (fun _ z=>.inl z) (g4.erase p)⟩)
  exact q _ _ _ (f2.setVal (i:=i) (d:=.p z) (DatS.kp kS (fun _ z=>.inl z) ru)) ((Stp.upd f1 e1 (not_tup g3)).trans f2.dom Stp.put)
 next=>cases eo2
noncomputable def rdTg(K:W.Frag)(τ:Env'->PyData->Option Env'):TG:=fun v σ H Q=>∃g ow ρ n d ρ',Frm K g ow ρ n σ H/\DatS (g.S ow) H d v/\τ ρ d=some ρ'/\∀ow' σ',Frm K g ow' ρ' n σ' H->Stp g ow H ow' H->Q σ' H
noncomputable abbrev DTg(K:W.Frag)(X:Cx)(tg:Expr)(τ:Env'->PyData->Option Env'):Prop:=PG X tg (rdTg K τ)
theorem PG.imp{t t':TG}(h:PG X tg t)(k:∀v σ H Q,t' v σ H Q->t v σ H Q):PG X tg t':=fun pins s σ H v u Q I r q=>h pins s σ H v u Q I r (k v σ H Q q)
noncomputable def τ1(i:Nat):Env'->PyData->Option Env':=fun ρ d=>some (ρ.set i (some (Sl.val (.p d))))
theorem w8{i:Nat}(h:PG X tg (uR i)):DTg K X tg (τ1 i):=h.imp fun v σ H Q ⟨g,ow,ρ,n,d,ρ',f,r,e,q⟩=>by
 cases e;exact q _ _ (f.setVal (d:=.p d) r) Stp.put
noncomputable def xn(k:Env'->Mx Out):Out->Mx Out
 | .nx ρ=>k ρ
 | .ct ρ=>k ρ
 | .bk ρ=>pure (.nx ρ)
 | .rt d=>pure (.rt d)
noncomputable def xA(τ:Env'->PyData->Option Env')(body:Env'->Mx Out):List PyData->Env'->Mx Out
 | [],ρ=>pure (.nx ρ)
 | d::r,ρ=>Mx.opt (τ ρ d) >>= fun ρ1=>body ρ1 >>= xn (xA τ body r)
noncomputable def sFor(mi:Env'->Mx (List PyData))(τ:Env'->PyData->Option Env')(body:Env'->Mx Out):Env'->Mx Out:=fun ρ=>mi ρ >>= fun ds=>xA τ body ds ρ
theorem wl{E:Ends}{k:Env'->Mx Out}{mm:Mx Out}{N:St->Hp->Prop}(q:AftS K g ow H Er ((mm >>= xn k) n) E)
  (hN:∀ow' ρ' n' σ' H',Frm K g ow' ρ' n' σ' H'->Stp g ow H ow' H'->AftS K g ow' H' Er (k ρ' n') E->N σ' H'):AftS K g ow H Er (mm n) { E with nx:=N,ct:=N,bk:=E.nx }:=by
 rw[Mx.bind_def]at q;cases r:mm n with
 | ok o n'=>
  rw[r]at q;cases o with
  | nx ρ2=>exact fun ow' σ' H' f s=>hN ow' ρ2 n' σ' H' f s (AftS.later q f.dom s)
  | ct ρ2=>exact fun ow' σ' H' f s=>hN ow' ρ2 n' σ' H' f s (AftS.later q f.dom s)
  | bk ρ2=>exact q
  | rt d=>exact q
 | err c n'=>rw[r]at q;exact q
 | bad=>rw[r]at q;exact q
theorem z5H{τ:Env'->PyData->Option Env'}{E:Ends}(h:rdS K Er (sFor mi τ sa) E σ H):tFor (rdG (RI false) K Er mi) (rdTg K τ) (rdS K Er sa) E σ H:=by
 refine rs1 h fun g ow ρ n n1 ds J H1 f _ f1 ⟨hl,xs,hd,wk⟩ q=>?_;rw[if_neg Bool.false_ne_true]at wk;have hlen:=hd.length;refine⟨fun i mm σ' H'=>mm=xs.length - i/\i<=xs.length/\∃ow' ρ' n',Frm K g ow' ρ' n' σ' H'/\Stp g ow H1 ow' H'/\AftS K g ow' H' Er (xA τ sa (ds.drop i) ρ' n') E,⟨xs.length,by simp,Nat.zero_le _,ow,ρ,n1,f1,Stp.refl,q⟩,?_⟩;rintro i mm σ' H' ⟨rfl,hi,ow',ρ',n',f',s',q'⟩;by_cases hlt:i<xs.length
 ·refine .inr ⟨wk.go i H' s'.kp hlt,fun σ2 H2=>∃ow2 ρ2 n2,Frm K g ow2 ρ2 n2 σ2 H2/\Stp g ow H1 ow2 H2/\AftS K g ow2 H2 Er (xA τ sa (ds.drop (i+1)) ρ2 n2) E,fun σ2 H2 p=>⟨xs.length - (i+1),by omega,rfl,hlt,p⟩,fun x H2 y=>?_⟩;obtain⟨rfl,hx⟩:=wk.yld i H' x H2 s'.kp y;have hx:=hx hlt;have hid:i<ds.length:=by omega
  obtain⟨v',ev,rv⟩:=hd.get (List.getElem?_eq_getElem hid);rw[hx]at ev;cases ev;rw[List.drop_eq_getElem_cons hid]at q';simp only[xA]at q';obtain⟨ρ1,e1,q1⟩:=uL q';have rv':DatS (g.S ow') H2 ds[i] x:=DatS.kp s'.kp (fun a z=>by
   rcases z with z | z | ⟨l,z⟩
   ·exact .inl (.inl z)
   ·exact .inl (.inr (.inl z))
   ·rcases s'.ow l a z with q | q
    ·exact .inl (.inr (.inr q))
    ·exact .inr q) rv
  refine⟨g,ow',ρ',n',ds[i],ρ1,f',rv',e1,fun ow3 σ3 f3 s3=>⟨g,ow3,ρ1,n',f3,?_⟩⟩;refine wl (k:=xA τ sa (ds.drop (i+1))) (AftS.later q1 f3.dom s3) fun ow4 ρ4 n4 σ4 H4 f4 s4 q4=>⟨ow4,ρ4,n4,f4,s'.trans f'.dom (s3.trans f3.dom s4),q4⟩
 ·have e:i=xs.length:=by omega
  subst e;rw[List.drop_of_length_le (by omega)]at q';exact .inl ⟨wk.stop H' s'.kp,q' ow' σ' H' f' Stp.refl⟩
theorem z03{τ:Env'->PyData->Option Env'}(hp:PassesOwn (model X.prog X.w) X.A X.env X.xe)(hc:X.calm=true)(hi:DI false K Er X tg it mi)(hg:DTg K X tg τ)(hb:DSs K Er X sts sa)(hs:∀x,foldedSetIterable it X.env x=pure x:=by intro _;rfl):DS K Er X (.For tg it sts [] pos) (sFor mi τ sa):=
 (z4Q hp hc hi hg hb hs).imp fun σ H E h=>z5H h
noncomputable def uS(c:Env'->Mx Bool)(body:Env'->Mx Out):Nat->Env'->Mx Out
 | 0,_=>Mx.bad
 | k+1,ρ=>c ρ >>= fun t=>if t=true then(body ρ >>= xn (uS c body k))else pure (.nx ρ)
noncomputable def uo(k:Nat)(c:Env'->Mx Bool)(body:Env'->Mx Out):Env'->Mx Out:=fun ρ=>uS c body k ρ
theorem z2m{k:Nat}{E:Ends}(h:rdS K Er (uo k mc sa) E σ H):z69 (rdG RT K Er mc) (rdS K Er sa) E σ H:=by
 obtain⟨g,ow,ρ,n,f,q⟩:=h;refine⟨fun mm σ' H'=>∃ow' ρ' n',Frm K g ow' ρ' n' σ' H'/\AftS K g ow' H' Er (uS mc sa mm ρ' n') E,⟨k,ow,ρ,n,f,q⟩,?_⟩;rintro mm σ' H' ⟨ow',ρ',n',f',q'⟩;cases mm with
 | zero=>exact q'.elim
 | succ mm=>
  simp only[uS]at q';refine⟨g,ow',ρ',n',f',xw f' q' fun n1 t t' H1 k1 f1 r1 q1=>?_⟩;cases r1;cases t with
  | false=>exact ite_ff (q1 ow' σ' H1 f1 Stp.refl)
  | true=>
   refine ite_tt ⟨fun σ2 H2=>∃ow2 ρ2 n2,Frm K g ow2 ρ2 n2 σ2 H2/\AftS K g ow2 H2 Er (uS mc sa mm ρ2 n2) E,fun σ2 H2 p=>⟨mm,Nat.lt_succ_self _,p⟩,g,ow',ρ',n1,f1,?_⟩;have q1:AftS K g ow' H1 Er ((sa ρ' >>= xn (uS mc sa mm)) n1) E:=q1;exact wl (k:=uS mc sa mm) q1 fun ow4 ρ4 n4 σ4 H4 f4 s4 q4=>⟨ow4,ρ4,n4,f4,q4⟩
theorem z2a{k:Nat}(hp:PassesOwn (model X.prog X.w) X.A X.env X.xe)(hc:DT K Er X c mc)(hb:DSs K Er X sts sa):DS K Er X (.While c sts [] pos) (uo k mc sa):=(z5q hp hc hb).imp fun σ H E h=>z2m h
end
noncomputable def outD:Out->Mx D
 | .rt d=>pure d
 | .nx _=>pure (.p .none)
 | _=>Mx.bad
noncomputable def mFn(nn ar:Nat)(m:Env'->Mx Out)(ds:List D):Mx D:=if ds.length=ar then(m (ds.map (fun d=>some (Sl.val d))++List.replicate (nn - ar) none) >>= outD)else Mx.bad
theorem z4A{K:W.Frag}{g:Gh}{n nn:Nat}{ds:List D}{vs:List V}{H:Hp}(h0:g.H0=H)(hs:Scp K g H)(ht:Twn g H n)(hd:∀a,g.S0 a->H a≠none)(r:All2 (Rep g g.U H) ds vs):
  Frm K g (fun _=>none) (ds.map (fun d=>some (Sl.val d))++List.replicate (nn - ds.length) none) n (vs.map some++List.replicate (nn - vs.length) none) H:=by
 have hl:=r.length;have hS:∀a,g.S (fun _=>none) a->g.U a:=fun a z=>z.elim .inl fun z=>z.elim .inr fun⟨_,z⟩=>nomatch z;have get:∀{ds:List D} {vs:List V},All2 (Rep g g.U H) ds vs->∀(i:Nat) (d:D),ds[i]?=some d->∃v,vs[i]?=some v/\Rep g g.U H d v:=by
  intro ds vs r
  induction r with
  | nil=>intro i d e;simp at e
  | cons r1 _ ih=>
   intro i d e;cases i with
   | zero=>simp at e;subst e;exact⟨_,rfl,r1⟩
   | succ i=>simpa using ih i d (by simpa using e)
 have part:∀(i:Nat) (s:Sl),(ds.map (fun d=>some (Sl.val d))++List.replicate (nn - ds.length) none)[i]?=some (some s)->∃d,ds[i]?=some d/\s=Sl.val d:=fun i s e=>by
  by_cases hi:i<ds.length
  ·rw[List.getElem?_append_left (by simpa using hi),List.getElem?_map,List.getElem?_eq_getElem hi]at e;cases e;exact⟨_,List.getElem?_eq_getElem hi,rfl⟩
  ·rw[List.getElem?_append_right (by simpa using hi),List.getElem?_replicate]at e;split at e<;>cases e
 refine⟨by rw[h0];exact hs,ht,by rw[h0];exact hd,by rw[h0];exact Kp.refl _ _,fun i d e=>?_,fun i x e=>?_,fun i kl e=>?_,fun i a e=>(nomatch e),fun i j a e=>(nomatch e),by simp[hl]⟩
 ·obtain⟨d',e1,e2⟩:=part i _ e;cases e2;obtain⟨v,e3,r3⟩:=get r i d e1;have hi:i<vs.length:=(List.getElem?_eq_some_iff.mp e3).1;exact⟨v,by rw[List.getElem?_append_left (by simpa using hi),List.getElem?_map,e3];rfl,r3.shift rfl rfl hS⟩
 ·obtain⟨d',e1,e2⟩:=part i _ e;cases e2
 ·obtain⟨d',e1,e2⟩:=part i _ e;cases e2
section
variable{P:Program}{w:World}{K:W.Frag}{mg:Str->Option Value}{base:Heap}
theorem z99{x qual:Str}{st:Stmt}{f:Addr}{fd:FuncData}{N ps:List Str}{k:Nat}{m:Env'->Mx Out}(F:Fun K x qual st f fd)(S:FnScope N ps (z5 st))
  (h:∀(cdv:Value) (A:Around) (outer:List Env) (s:Shared) (H:Hp) (E:XK),Room k (A.deeper (envOfC qual (z5 st) s.heap.objs.size f cdv))->DSs K (fun _ _=>False) (cxOf CX0 P w K mg base N qual (z5 st) f cdv A outer s H E).nox (zy st) m) :
  FnOk P w K mg base CX0 (k+1) f fd ps (spD K EW0 (mFn N.length ps.length m)):=by
 have alen:∀{vs:List V} {H:Hp} {Q:VK} {E:XK},spD K EW0 (mFn N.length ps.length m) vs H Q E->vs.length=ps.length:=fun{vs H Q E} ⟨g,n,ds,_,_,_,_,r,q⟩=>by
  by_cases e:ds.length=ps.length
  ·rw[<-r.length];exact e
  ·unfold mFn at q;rw[if_neg e]at q;exact q.elim
 refine F.ok S (fun vs H Q E h=>alen h) fun cdv A outer s H vs Q E hr hsp=>⟨_,h cdv A outer s H E hr,?_⟩;have hl:=alen hsp;obtain⟨g,n,ds,h0,hs,ht,hd,r,q⟩:=hsp;have e:ds.length=ps.length:=by rw[r.length];exact hl
 unfold mFn at q;rw[if_pos e,<-e]at q;refine⟨g,fun _=>none,ds.map (fun d=>some (Sl.val d))++List.replicate (N.length - ds.length) none,n,?_,?_⟩
 ·exact z4A (nn:=N.length) h0 hs ht hd r
 ·rw[Mx.bind_def]at q;subst h0;cases o:m (ds.map (fun d=>some (Sl.val d))++List.replicate (N.length - ds.length) none) n with
  | ok out n'=>
   rw[o]at q;cases out with
   | nx ρ=>exact fun ow' σ' H' f' _=>q .non H' f'.ext f'.twn (dn:DatS g.U H' .none .non)
   | rt d=>exact fun v H' k t r=>q v H' k t r
   | bk ρ=>exact q.elim
   | ct ρ=>exact q.elim
  | err c n'=>rw[o]at q;exact fun H' k t=>(q H' k t).elim
  | bad=>rw[o]at q;exact q
theorem zZ{x qual:Str}{st:Stmt}{f:Addr}{fd:FuncData}{N ps:List Str}{k nn ar:Nat}{m:Env'->Mx Out}{F':List D->Mx D}(F:Fun K x qual st f fd)(S:FnScope N ps (z5 st))(hn:N.length=nn)(ha:ps.length=ar)(hF:F'=mFn nn ar m)
  (h:∀(cdv:Value) (A:Around) (outer:List Env) (s:Shared) (H:Hp) (E:XK),Room k (A.deeper (envOfC qual (z5 st) s.heap.objs.size f cdv))->DSs K (fun _ _=>False) (cxOf CX0 P w K mg base N qual (z5 st) f cdv A outer s H E).nox (zy st) m) :
  FnOk P w K mg base CX0 (k+1) f fd ps (spD K EW0 F'):=by
 subst hn ha hF;exact z99 F S h
end
section
variable{K:W.Frag}{Er:Str->Hp->Prop}{X:Cx}{e a b c tg it elt:Expr}{es rest:List Expr}{m ma mb mz:Env'->Mx D}{mc mt:Env'->Mx Bool}{ms:Env'->Mx (List D)}{mi:Env'->Mx (List PyData)}{mf:Env'->Mx PyData}{pos p2:Pos}{st:Stmt}{sts tts:List Stmt}{sa sb:Env'->Mx Out}
variable{g:Gh}{ow:Ix->Option Addr}{ρ:Env'}{n n':Nat}{σ:St}{H H' H1:Hp}
noncomputable def bool?:PyData->Option Bool
 | .bool b=>some b
 | _=>none
theorem bool?_eq{x:PyData}{k:Bool}(h:bool? x=some k):x=.bool k:=by
 cases x<;>simp only[bool?]at h<;>cases h;rfl
noncomputable def mChain(f f':PyData->PyData->Option PyData)(a b c:Env'->Mx D):Env'->Mx D:=fun ρ=>a ρ >>= fun x=>b ρ >>= fun y=>Mx.opt ((onP2 f x y).bind bool?) >>= fun k=>if k=true then(c ρ >>= fun z=>Mx.opt ((onP2 f' y z).map D.p))else pure (.p (.bool false))
theorem z2z{f f':PyData->PyData->Option PyData}{Q:VK}(h:rdG RE K Er (mChain f f' ma mb mz) σ H Q):z67 (rD2 f) (rD2 f') (rdG RW K Er ma) (rdG RW K Er mb) (rdG RW K Er mz) σ H Q:=by
 refine rd1 h (fun _ _ _ _ _ _ _ _ _ _ r=>r) fun g ow ρ n x v H0 H1 fr _ r q=>?_;refine⟨g,ow,ρ,n,fr,AftG.bind q fun y n2 u H2 k2 t2 r2 c2=>?_⟩;have fr2:=fr.kp k2 t2;obtain⟨k,e,q2⟩:=yk (c2 (R3:=RE g (g.S ow)) fun _ _ _ z=>z);obtain⟨z,e1,e2⟩:=Option.bind_eq_some_iff.mp e;obtain⟨x',y',rfl,rfl,e3⟩:=zo e1;cases bool?_eq e2;have rx:=Rep1.kp k2 Gh.us r;refine⟨g.S ow,x',y',_,fr2.dom,Dat1.weak (Rep1.d1 rx),Dat1.weak (Rep1.d1 r2),e3,fun v3 H3 s3 d3=>⟨k,by simpa only[DatS]using d3,?_⟩⟩;have fr3:=fr2.kp (s3.kp) (s3.twn t2);cases k with
 | false=>exact ite_ff (q2 _ _ s3.kp (s3.twn t2) rb)
 | true=>
  have q3:AftG (RE g (g.S ow)) g Er H2 ((mz ρ >>= fun z=>Mx.opt ((onP2 f' (.p y') z).map D.p)) n2) Q:=q2;have q3:AftG (RE g (g.S ow)) g Er H3 ((mz ρ >>= fun z=>Mx.opt ((onP2 f' (.p y') z).map D.p)) n2) Q:=by
   generalize((mz ρ >>= fun z=>Mx.opt ((onP2 f' (.p y') z).map D.p)) n2)=o at q3;cases o with
   | ok d n4=>exact fun v4 H4 k4 t4 r4=>q3 v4 H4 (s3.kp.trans k4) t4 r4
   | err c n4=>exact q3
   | bad=>exact q3
  refine ite_tt ⟨g,ow,ρ,n2,fr3,AftG.bind q3 fun z n4 w H4 k4 t4 r4 c4=>?_⟩;obtain⟨r',e5,q5⟩:=xB t4 (c4 (R3:=RE g (g.S ow)) fun _ _ _ z=>z);obtain⟨y2,z',ey,rfl,e6⟩:=zo e5;cases ey;exact⟨g.S ow,y',z',r',(fr3.kp k4 t4).dom,Dat1.weak (Rep1.d1 (Rep1.kp k4 Gh.us (Rep1.kp s3.kp Gh.us r2))),Dat1.weak (Rep1.d1 r4),e6,q5⟩
theorem z5O{op op':CmpOp}{f f':PyData->PyData->Option PyData}(ho:OpR X (compareOp op) (rD2 f))(ho':OpR X (compareOp op') (rD2 f'))(ha:DW K Er X a ma)(hb:DW K Er X b mb)(hc:DW K Er X c mz)
  (hm:lastMarks [op,op'] [b,c]=false:=by with_unfolding_all rfl):DE K Er X (.Compare a [op,op'] [b,c] pos) (mChain f f' ma mb mz):=(z5R ho ho' ha hb hc hm).imp fun σ H Q h=>z2z h
noncomputable def fIsi:String->PyData->Option PyData
 | _,.dict _=>none
 | "bool",.bool _=>some (.bool true)
 | "bool",_=>some (.bool false)
 | "int",.bool _=>some (.bool true)
 | "int",.int _=>some (.bool true)
 | "int",_=>some (.bool false)
 | "tuple",.tuple _=>some (.bool true)
 | "tuple",_=>some (.bool false)
 | "list",.list _=>some (.bool true)
 | "list",_=>some (.bool false)
 | "str",.str _=>some (.bool true)
 | "str",_=>some (.bool false)
 | "dict",_=>some (.bool false)
 | _,_=>none
noncomputable def tyN:PyData->String
 | .none=>"NoneType"
 | .bool _=>"bool"
 | .int _=>"int"
 | .str _=>"str"
 | .list _=>"list"
 | .tuple _=>"tuple"
 | .dict _=>"dict"
noncomputable def z6W:PyData->Bool
 | .dict _=>false
 | _=>true
theorem z8f{T S:Addr->Prop}{d:PyData}{v:V}(hd:z6W d=true)(h:Dat1 T S H d v):TyOf K H v (.type (tyN d)):=by
 cases d with
 | none=>cases z3p h;exact .non
 | bool b=>cases z5N h;exact .bl _
 | int i=>cases zY h;exact .int _
 | str x=>cases z1M h;exact .str _
 | list ds=>obtain⟨a,xs,rfl,h1,_⟩:=yI h;exact .lst h1
 | tuple ds=>obtain⟨a,xs,rfl,h1,_⟩:=yF h;exact .tup h1
 | dict ds=>
  obtain⟨a,xs,rfl,h1,_⟩:=z1J h;exact(nomatch hd)
def IsiT(K:W.Frag)(T:String):Prop:=∀d:PyData,(z6W d=false/\fIsi T d=none)\/∃b,z6W d=true/\fIsi T d=some (.bool b)/\W.kitOne K (.type (tyN d)) (.type T)=some b
theorem z54:IsiT K "bool":=fun d=>by cases d<;>first | exact .inl ⟨rfl,rfl⟩ | exact .inr ⟨_,rfl,rfl,rfl⟩
theorem z6y:IsiT K "int":=fun d=>by cases d<;>first | exact .inl ⟨rfl,rfl⟩ | exact .inr ⟨_,rfl,rfl,rfl⟩
theorem wV:IsiT K "tuple":=fun d=>by cases d<;>first | exact .inl ⟨rfl,rfl⟩ | exact .inr ⟨_,rfl,rfl,rfl⟩
theorem z1Q{T:String}(hT:IsiT X.K T)(h:PE X e (tCB (fun xs H Q=>∃(x:V) (t:Value) (T:String) (b:Bool),xs=[x,.ty T]/\TyOf X.K H x t/\W.kitOne X.K t (.type T)=some b/\Q (.bl b) H) (xb (rdG RW K Er m) (xb (tC (.ty T)) tNil)))):DE K Er X e (mUn (fIsi T) m):=h.imp fun σ H Q h=>rd1 h (fun _ _ _ _ _ _ _ _ _ _ r=>r) fun g ow ρ n d v H0 H2 fr _ r q=>by
 obtain⟨z,e,q2⟩:=xB fr.twn q;obtain⟨x,rfl,e1⟩:=zc e;rcases hT x with ⟨_,e2⟩ | ⟨b,hd,e2,e3⟩
 ·rw[e2]at e1;cases e1
 rw[e2]at e1;cases e1;exact⟨v,_,T,b,rfl,z8f hd (Rep1.d1 r),e3,q2 _ _ (Same.refl _) db⟩
theorem z93{i:Nat}{a:Addr}(z:g.S (putO ow i none) a):g.S ow a:=by
 rcases z with z | z | ⟨l,z⟩
 ·exact .inl z
 ·exact .inr (.inl z)
 ·exact .inr (.inr ⟨l,(ya z).2⟩)
end
section
variable{K:W.Frag}{Er:Str->Hp->Prop}{X:Cx}{e:Expr}{m:Env'->Mx D}{pos:Pos}
variable{g:Gh}{ow:Ix->Option Addr}{ρ:Env'}{n n':Nat}{σ:St}{H H' H1:Hp}
noncomputable def wz:Option (Option Sl)->Bool
 | some (some (Sl.val .town))=>true
 | _=>false
theorem z4u{o:Option (Option Sl)}(h:wz o=true):o=some (some (Sl.val .town)):=by
 unfold wz at h;split at h
 ·rfl
 ·cases h
theorem Frm.town{i:Nat}(f:Frm K g ow ρ n σ H)(h:wz ρ[i]?=true):∃a,g.aT=some a/\σ[i]?=some (some (.ref a))/\H a=some (.lst (List.replicate n (.int 0))):=by
 obtain⟨v,e1,a,e2,e3⟩:=f.val i .town (z4u h);subst e3;exact⟨a,e2,e1,f.twn a e2⟩
noncomputable def z3e(i:Nat):Env'->Mx Out:=fun ρ n=>if wz ρ[i]?=true/\n<lim then .ok (.nx ρ) (n+1)else .bad
theorem z6f{i:Nat}(h:PE X e (tBM X.K "list" z0T (tVar i) (xb (tC (.int 0)) tNil)))(hs:swapsWith e none pos.line X.env=pure false:=by rfl):DS K Er X (.Expr e pos) (z3e i):=(xW h hs).imp fun σ H E h=>by
 obtain⟨g,ow,ρ,n,f,q⟩:=h;unfold z3e at q;split at q
 next c=>
  obtain⟨a,e1,e2,e3⟩:=f.town c.1;refine⟨.ref a,e2,.inl ⟨rfl,_,SqL.of e3⟩,a,_,.int 0,rfl,rfl,e3,Nat.lt_of_lt_of_le (by rw[List.length_replicate];exact c.2) (y3 (Nat.le_refl _)),?_⟩;have k:Kp g.T H (upd H a (.lst (List.replicate n (.int 0)++[.int 0]))):=fun b o hb z=>by
   by_cases eb:b=a
   ·subst eb;rcases z with z | ⟨xs,rfl⟩
    ·exact absurd e1 z
    ·rw[e3]at hb;cases hb
   ·rw[z9 eb];exact hb
  have t:Twn g (upd H a (.lst (List.replicate n (.int 0)++[.int 0]))) (n+1):=fun b eb=>by
   rw[e1]at eb;cases eb;rw[z6,List.replicate_succ']
  exact q ow σ _ (f.kp k t) (Stp.of k)
 next=>exact q.elim
noncomputable def z4Y(i:Nat):Env'->Mx D:=fun ρ n=>if wz ρ[i]?=true then .ok (.p (.int n)) n else .bad
theorem z6V{i:Nat}(h:PE X e (tCB (fun xs H Q=>∃p ys,xs=[.ref p]/\(SqL X.K H p ys\/SqT X.K H p ys)/\Q (.int ys.length) H) (xb (tVar i) tNil))):DE K Er X e (z4Y i):=h.imp fun σ H Q ⟨g,ow,ρ,n,f,q⟩=>by
 unfold z4Y at q;split at q
 next c=>
  obtain⟨a,e1,e2,e3⟩:=f.town c;exact⟨.ref a,e2,a,_,rfl,.inl (SqL.of e3),q _ _ (Kp.refl _ _) f.twn (by rw[List.length_replicate];exact(di:DatS (g.S ow) H (.int n) (.int n)))⟩
 next=>exact q.elim
end
theorem z5b{prog:Program}{w:World}{A:Around}{E:Value->Shared->Prop}{s:Shared}{env:Env}{k v:Expr}{pos:Pos}{Q:Value->Shared->Prop}
  (h:wpAny (model prog w) A (evalPairs (pairTrees [some k] [v] env pos)) (fun vs s₁=>∃ku vu,vs=[(ku,vu)]/\wpAny (model prog w) A (dictSet s.heap.objs.size ku vu) (fun _ s₂=>Q (.ref s.heap.objs.size) s₂) E s₁) E
   { s with heap:=s.heap.push { cls:=.type "dict",data:=.dict #[] } }):wpAny (model prog w) A (eval (.Dict [some k] [v] pos) env) Q E s:=by
 rw[arm_eval_Dict,zip_pairTrees [some k] [v] env pos rfl rfl,dictDisplay_pairs _ (by simp[pairTrees]) (by simp[pairTrees])];refine wpAny_bind (wpAny_standAt (wpAny_bind ?_));unfold subDict;refine wpAny_bind (wpAny_alloc ?_);refine wpAny_bind (wpAny_holding ?_);rw[if_pos (by simp[pairTrees])];refine wpAny_bind (wpAny_mono h (fun vs s₁ h₁=>?_) fun _ _ e=>e);obtain⟨ku,vu,rfl,h₁⟩:=h₁;refine wpAny_holding ?_;rw[List.forIn_cons];refine wpAny_bind (wpAny_bind (wpAny_bind (wpAny_mono h₁ (fun _ s₂ h₂=>wpAny_pure ?_) fun _ _ e=>e)));dsimp only;rw[List.forIn_nil];exact wpAny_pure (wpAny_pure (wpAny_pure (wpAny_pure h₂)))
section
variable{X:Cx}{pins:List (Addr×Obj)}{σ:St}{H:Hp}{s:Shared}{a:Addr}{y v:V}{u r:Value}{A:Around}{E:Value->Shared->Prop}
theorem Inv.relT(I:Inv X pins σ H s)(h:H a=some (.dK [])):Inv X pins σ (upd H a (.dT [])) s:=by
 obtain⟨z,hd,vs,rel,dd⟩:=z5h I.hok h;cases rel;obtain⟨o,es,ep,h1,h2,h3,h4,h5,h6⟩:=dd;have e:es.toList=[]:=by
  cases q:es.toList with
  | nil=>rfl
  | cons x r=>rw[q]at h5;exact nomatch h5
 exact I.write (x:=a) (e:=a) (t':=s.toks) (h':=s.heap) (by rw[h];exact True.intro) (.inl rfl) (fun b u _ q=>q) ⟨o,h1⟩ ⟨Nat.zero_le _,hd,[],.nil,o,es,ep,h1,h2,h3,e,List.nodup_nil⟩
noncomputable def tD1(tk tv:TE):TE:=fun σ H Q=>∀p,H p=none->tk σ (upd H p (.dK [])) fun x H1=>tv σ H1 fun y H2=>H2 p=some (.dK [])/\
 ((∃k,x=kV k/\Q (.ref p) (upd H2 p (.dK [(k,y)])))\/∃k b,x=.ref b/\H2 b=some (.tup (k.map kV))/\Q (.ref p) (upd H2 p (.dT [(k,y)])))
theorem z8o{k v:Expr}{tk tv:TE}{pos:Pos}(hu:X.A.units+1<cLine)(hk:PE X k tk)(hv:PE X v tv):PE X (.Dict [some k] [v] pos) (tD1 tk tv):=by
 intro pins s σ H Q I q;have hn:=I.hok.fresh (Nat.le_refl s.heap.objs.size);have I1:=I.laid (a:=s.heap.objs.size) (o:=.dK []) (h':=s.heap.push { cls:=.type "dict",data:=.dict #[] }) (t':=s.toks) (fun _ _ q=>Heap.get?_push_of_some _ q) (Nat.le_refl _) (z2I s.heap I.big);refine z5b (pairTrees_cons_walk (thn (hk pins _ σ _ _ I1 (q _ hn)) fun ku s1 ⟨x,H1,I2,rx,q1⟩=>thn (hv pins s1 σ H1 _ I2 q1) fun vu s2 ⟨y,H2,I3,ry,e,q2⟩=>pairTrees_nil_walk ⟨ku,vu,rfl,?_⟩));rcases q2 with ⟨k,rfl,q2⟩ | ⟨k,b,rfl,hb,q2⟩
 ·obtain⟨z,hd,vs,rel,dd⟩:=z5h I3.hok e;cases rel;refine wpAny_dictSet_pairs (hsz:=Nat.zero_le _) (z1q rx) dd fun h' dd' hs=>⟨.ref s.heap.objs.size,_,?_,rfl,q2⟩;have he:∃q,h'.get? s.heap.objs.size=some q:=let⟨q,_,_,hq,_⟩:=dd';⟨q,hq⟩
  exact xx I3 (by rw[e];exact True.intro) hs he (z4z (by show 1<=sizeLine;rw[sizeLine_eq];decide) hd (KV.put (kvs:=[]) .nil k ry) dd')
 ·cases(show ku=Value.ref b from rx);have I4:=I3.relT e;have hbp:b≠s.heap.objs.size:=z4R hb e (fun z=>nomatch z);obtain⟨z,hd,xs,rel,dd⟩:=z6p I4.hok (a:=s.heap.objs.size) (kvs:=[]) z6;cases rel;refine wpAny_dictSet_heap (hsz:=Nat.zero_le _) (show X.A.units<cLine by omega) (wu I4.hok (by rw[z9 hbp];exact hb)) dd fun h' dd' hs=>⟨.ref s.heap.objs.size,_,?_,rfl,q2⟩;obtain⟨q,es,ep,hq,h2,h3,h4,_,h5⟩:=dd'
  have:=xx (ob:=.dT [(k,y)]) (t':=s2.toks+(tupleKind (zd X.prog X.w)).draws k) I4 (by rw[z6];exact True.intro) hs ⟨q,hq⟩ ⟨by show 1<=sizeLine;rw[sizeLine_eq];decide,hd,_,.cons ⟨rfl,by rw[z9 hbp,z9 hbp];exact hb,ry⟩ .nil,q,es,ep,hq,h2,h3,h4,h5⟩;rw[wY]at this;exact this
end
section
variable{X:Cx}{pins:List (Addr×Obj)}{σ:St}{H:Hp}{s:Shared}{a:Addr}{y v:V}{u r:Value}{A:Around}{E:Value->Shared->Prop}
theorem Inv.relK(I:Inv X pins σ H s)(h:H a=some (.dT [])):Inv X pins σ (upd H a (.dK [])) s:=by
 obtain⟨z,hd,xs,rel,o,es,ep,h1,h2,h3,h4,h5⟩:=(show ObjOk X.prog X.w H s.heap a (.dT []) from I.hok a _ h);cases rel;have e:es=#[]:=by
  have:es.toList=[]:=h4;cases es;simp at this;subst this;rfl
 subst e;exact I.write (x:=a) (e:=a) (t':=s.toks) (h':=s.heap) (by rw[h];exact True.intro) (.inl rfl) (fun b u _ q=>q) ⟨o,h1⟩ ⟨Nat.zero_le _,hd,[],.nil,o,#[],ep,h1,h2,h3,fun x hx=>by simp at hx,.nil,List.nodup_nil⟩
def DPutR(H:Hp)(a:Addr)(y v:V)(H':Hp):Prop:=DPut H a y v H'\/(∃k b,H a=some (.dK [])/\y=.ref b/\H b=some (.tup (k.map kV))/\H'=upd H a (.dT [(k,v)]))\/∃k,H a=some (.dT [])/\y=kV k/\H'=upd H a (.dK [(k,v)])
theorem z30{H':Hp}{Q:Unit->Shared->Prop}(hu:A.units+1<cLine)(I:Inv X pins σ H s)(g:DPutR H a y v H')(ry:RelV y u)(rv:RelV v r)(h:∀s',Inv X pins σ H' s'->Q () s'):wpAny (model X.prog X.w) A (setItem (.ref a) u r) Q E s:=by
 rcases g with g | ⟨k,b,e,rfl,hb,rfl⟩ | ⟨k,e,rfl,rfl⟩
 ·exact wt hu I g ry rv h
 ·have hba:b≠a:=z4R hb e (fun z=>nomatch z);refine wt hu (I.relT e) (DPut.t (kvs:=[]) z6 (by rw[z9 hba];exact hb) (by show 0<sizeLine;rw[sizeLine_eq];decide)) ry rv fun s' I'=>h s' ?_;rw[wY]at I';exact I'
 ·refine wt hu (I.relK e) (DPut.k (kvs:=[]) z6 (by show 0<sizeLine;rw[sizeLine_eq];decide)) ry rv fun s' I'=>h s' ?_;rw[wY]at I';exact I'
noncomputable def z7K(td ty tv:TE):TS:=fun D σ H=>tv σ H fun v H1=>td σ H1 fun x H2=>ty σ H2 fun y H3=>∃a H4,x=.ref a/\DPutR H3 a y v H4/\D.nx σ H4
theorem z5d{o i value:Expr}{pos pos':Pos}{td ty tv:TE}(hu:X.A.units+1<cLine)(ho:PE X o td)(hi:PE X i ty)(hv:PE X value tv)(hs:swapsWith value (some (.Subscript o i pos')) pos.line X.env=pure false):
  PS X (.Assign [.Subscript o i pos'] value pos) (z7K td ty tv):=by
 intro pins s σ H D I h;refine wpAny_Assign_Subscript (thn (hv pins s σ H _ I h) fun r s1 ⟨v,H1,I1,rv,q1⟩=>thn (ho pins s1 σ H1 _ I1 q1) fun u s2 ⟨x,H2,I2,rx,q2⟩=>thn (hi pins s2 σ H2 _ I2 q2) fun iv s3 ⟨y,H3,I3,ry,a,H4,ex,g,q3⟩=>?_) hs;subst ex;obtain rfl:u=Value.ref a:=rx;exact z30 hu I3 g ry rv fun s4 I4=>⟨σ,H4,I4,q3⟩
end
noncomputable def zv(kvs:List (PyData×PyData)):PyData->Bool
 | .tuple ds=>(z2t ds).isSome && kvs.all (fun kv=>xK kv.1)
 | x=>(keyD x).isSome && kvs.all (fun kv=>!xK kv.1)
noncomputable def dPut(kvs:List (PyData×PyData))(k v:PyData):List (PyData×PyData):=
 if (kvs.any fun kv=>PyData.eqv kv.1 k)=true then kvs.map (fun kv=>if PyData.eqv kv.1 k=true then(kv.1,v)else kv)else kvs++[(k,v)]
theorem DctS.append{S:Addr->Prop}{H:Hp}:∀{ds es:List (PyData×PyData)} {xs ys:List (PyData×V)},DctS S H ds xs->DctS S H es ys->DctS S H (ds++es) (xs++ys)
 | [],_,_,_,h,k=>by simp only[DctS]at h;subst h;exact k
 | (_,_)::_,_,_,_,h,k=>by
  simp only[DctS]at h;obtain⟨x,r,rfl,h1,h2⟩:=h;show DctS S H ((_,_)::(_++_)) _;simp only[DctS];exact⟨x,_,rfl,h1,DctS.append h2 k⟩
theorem DctS.one{S:Addr->Prop}{H:Hp}{k d:PyData}{v:V}(h:DatS S H d v):DctS S H [(k,d)] [(k,v)]:=by
 simp only[DctS];exact⟨v,[],rfl,h,rfl⟩
theorem DctS.put{S:Addr->Prop}{H:Hp}{κ:Type}[DecidableEq κ]{j:κ->PyData}(hj:∀a b,PyData.eqv (j a) (j b)=decide (a=b)){k:κ}{d:PyData}{v:V}(hd:DatS S H d v){kvs:List (PyData×PyData)}{l:List (κ×V)}
  (h:DctS S H kvs (l.map fun kv=>(j kv.1,kv.2))):DctS S H (dPut kvs (j k) d) ((putK l k v).map fun kv=>(j kv.1,kv.2)):=by
 have any:∀{kvs:List (PyData×PyData)} {l:List (κ×V)},DctS S H kvs (l.map fun kv=>(j kv.1,kv.2))->(kvs.any fun kv=>PyData.eqv kv.1 (j k))=(l.any fun kv=>decide (kv.1=k)):=by
  intro kvs
  induction kvs with
  | nil=>intro l h;cases l with
   | nil=>rfl
   | cons _ _=>simp[DctS]at h
  | cons p r ih=>
   intro l h;obtain⟨c,x⟩:=p;cases l with
   | nil=>simp[DctS]at h
   | cons q s=>
    simp only[DctS,List.map_cons]at h;obtain⟨y,t,e,h1,h2⟩:=h;cases e;rw[List.any_cons,List.any_cons,ih h2,hj]
 have mp:∀{kvs:List (PyData×PyData)} {l:List (κ×V)},DctS S H kvs (l.map fun kv=>(j kv.1,kv.2))->DctS S H (kvs.map fun kv=>if PyData.eqv kv.1 (j k)=true then(kv.1,d)else kv) ((l.map fun kv=>if kv.1=k then(kv.1,v)else kv).map fun kv=>(j kv.1,kv.2)):=by
  intro kvs
  induction kvs with
  | nil=>intro l h;cases l with
   | nil=>exact h
   | cons _ _=>simp[DctS]at h
  | cons p r ih=>
   intro l h;obtain⟨c,x⟩:=p;cases l with
   | nil=>simp[DctS]at h
   | cons q s=>
    obtain⟨q1,q2⟩:=q;simp only[DctS,List.map_cons]at h;obtain⟨y,t,e,h1,h2⟩:=h;cases e;rw[List.map_cons,List.map_cons,List.map_cons];have e2:=hj q1 k;by_cases hk:q1=k
    ·rw[if_pos hk,if_pos (by rw[e2];exact decide_eq_true hk)];simp only[DctS];exact⟨v,_,rfl,hd,ih h2⟩
    ·rw[if_neg hk,if_neg (by rw[e2,decide_eq_false hk];exact Bool.false_ne_true)];simp only[DctS];exact⟨q2,_,rfl,h1,ih h2⟩
 unfold dPut putK;rw[any h];split
 ·exact mp h
 ·rw[List.map_append];exact h.append (DctS.one hd)
theorem z43{S:Addr->Prop}{H:Hp}{a:Addr}{ks:List (PyData×V)}{kvs:List (PyData×PyData)}{x d:PyData}{y v:V}(hSa:S a)(hpl:Pl H a)(h1:DctAt H a ks)(h2:DctS S H kvs ks)(hx:DatS S H x y)(hd:DatS S H d v)(ok:zv kvs x=true)(hl:kvs.length<lim):
  ∃o ks',DPutR H a y v (upd H a o)/\DctAt (upd H a o) a ks'/\DctS S H (dPut kvs x d) ks'/\∀ob u,o≠.frz ob u:=by
 have hlen:∀{kvs:List (PyData×PyData)} {ks:List (PyData×V)},DctS S H kvs ks->kvs.length=ks.length:=by
  intro kvs
  induction kvs with
  | nil=>intro ks h;simp only[DctS]at h;subst h;rfl
  | cons p r ih=>
   intro ks h;obtain⟨c,x⟩:=p;simp only[DctS]at h;obtain⟨y,t,rfl,h1,h2⟩:=h;simp[ih h2]
 have small:∀{n:Nat},n=kvs.length->n<sizeLine:=fun e=>Nat.lt_of_lt_of_le (by rw[e];exact hl) (y3 (Nat.le_refl _));have hk:=hlen h2;have tk:∀{P:PyData->Bool} (hP:kvs.all (fun kv=>P kv.1)=true) {κ:Type} {j:κ->PyData} {l:List (κ×V)},ks=l.map (fun kv=>(j kv.1,kv.2))->l=[]\/∃c,P (j c)=true:=fun{P} hP {κ j l} e=>by
  subst e;cases l with
  | nil=>exact .inl rfl
  | cons q s=>
   cases kvs with
   | nil=>simp[DctS]at h2
   | cons p r=>
    obtain⟨p1,p2⟩:=p;simp only[DctS,List.map_cons]at h2;obtain⟨_,_,e,_⟩:=h2;cases e;rw[List.all_cons,Bool.and_eq_true]at hP;exact .inr ⟨q.1,hP.1⟩
 have plain:∀k:Key,x=kD k->kvs.all (fun kv=>!xK kv.1)=true->∃o ks',DPutR H a y v (upd H a o)/\DctAt (upd H a o) a ks'/\DctS S H (dPut kvs x d) ks'/\∀ob u,o≠.frz ob u:=fun k e hA=>by
  have ey:y=kV k:=by rw[e]at hx;exact z0j hx
  rcases h1 with ⟨l,g,rfl⟩ | ⟨l,g,e2⟩
  ·refine⟨.dK (putK l k v),_,.inl (by rw[ey];exact DPut.k (hpl.rd g) (small (by rw[hk,List.length_map]))),.inl ⟨_,.inl z6,rfl⟩,?_,fun _ _ z=>by cases z⟩;rw[e];exact DctS.put z4r hd h2
  ·rcases tk (P:=fun d=>!xK d) hA e2 with rfl | ⟨c,hc⟩
   ·rw[e2]at h2;have ekv:kvs=[]:=by
     cases kvs with
     | nil=>rfl
     | cons p r=>obtain⟨_,_⟩:=p;simp[DctS]at h2
    subst ekv;exact⟨.dK [(k,v)],_,.inr (.inr ⟨k,hpl.rd g,ey,rfl⟩),.inl ⟨_,.inl z6,rfl⟩,by rw[e];exact DctS.one hd,fun _ _ z=>by cases z⟩
   ·simp[kT,xK]at hc
 cases x with
 | tuple ds=>
  simp only[zv,Bool.and_eq_true]at ok;obtain⟨o1,o2⟩:=ok;obtain⟨k,ek⟩:=Option.isSome_iff_exists.mp o1;have ed:=wQ ek;simp only[DatS]at hx;obtain⟨b,xs,rfl,hb,hxs⟩:=hx;rw[ed]at hxs;rw[z0a hxs]at hb;rcases h1 with ⟨l,g,e2⟩ | ⟨l,g,rfl⟩
  ·rcases tk (P:=xK) o2 e2 with rfl | ⟨c,hc⟩
   ·rw[e2]at h2;have ekv:kvs=[]:=by
     cases kvs with
     | nil=>rfl
     | cons p r=>obtain⟨_,_⟩:=p;simp[DctS]at h2
    subst ekv;exact⟨.dT [(k,v)],_,.inr (.inl ⟨k,b,hpl.rd g,rfl,hb,rfl⟩),.inr ⟨_,.inl z6,rfl⟩,by rw[ed];exact DctS.one hd,fun _ _ z=>by cases z⟩
   ·cases c<;>simp[kD,xK]at hc
  ·refine⟨.dT (putK l k v),_,.inl (DPut.t (hpl.rd g) hb (small (by rw[hk,List.length_map]))),.inr ⟨_,.inl z6,rfl⟩,?_,fun _ _ z=>by cases z⟩;rw[ed];exact DctS.put z6E hd h2
 | int i=>
  simp only[zv,Bool.and_eq_true]at ok;exact plain (.inl i) rfl ok.2
 | str i=>
  simp only[zv,Bool.and_eq_true]at ok;exact plain (.inr i) rfl ok.2
 | none=>simp[zv,keyD]at ok
 | bool _=>simp[zv,keyD]at ok
 | list _=>simp[zv,keyD]at ok
 | dict _=>simp[zv,keyD]at ok
noncomputable def putD(kvs:List (PyData×PyData))(k v:PyData):Option (List (PyData×PyData)):=if zv kvs k=true/\kvs.length<lim then some (dPut kvs k v)else none
section
variable{K:W.Frag}{Er:Str->Hp->Prop}{X:Cx}{e k v o:Expr}{mk mv:Env'->Mx D}{pos:Pos}
variable{g:Gh}{ow:Ix->Option Addr}{ρ:Env'}{n n':Nat}{σ:St}{H H' H1:Hp}
noncomputable def z2Z(i:Nat)(mk mv:Env'->Mx D):Env'->Mx Out:=fun ρ=>mv ρ >>= fun v=>Mx.opt (ownD ρ i) >>= fun kvs=>mk ρ >>= fun k=>Mx.opt ((onP2 (putD kvs) k v).map fun z=>Out.nx (ρ.set i (some (Sl.own (.dict z)))))
theorem z6o{i:Nat}{pos':Pos}(hu:X.A.units+1<cLine)(ho:PE X o (tVar i))(hk:DE K Er X k mk)(hv:DE K Er X v mv)(hs:swapsWith v (some (.Subscript o k pos')) pos.line X.env=pure false):
  DS K Er X (.Assign [.Subscript o k pos'] v pos) (z2Z i mk mv):=(z5d hu ho hk hv hs).imp fun σ H E h=>rs1 h fun g ow ρ n n1 d v H1 f k f1 r q=>by
 obtain⟨kvs,ek,q⟩:=uL q;obtain⟨a,e1,e2,dd⟩:=f1.own i _ (z1g ek);refine⟨.ref a,e2,g,ow,ρ,n1,f1,xw f1 q fun n2 x y H2 k2 f2 r2 q2=>?_⟩;obtain⟨out,eo,q3⟩:=rs_o q2;obtain⟨z,ez,eo2⟩:=Option.map_eq_some_iff.mp eo;subst eo2;obtain⟨x',d',rfl,rfl,e3⟩:=zo ez;unfold putD at e3;split at e3
 next c=>
  cases e3;obtain⟨a',g1,g2,g3⟩:=f2.own i _ (z1g ek);rw[e1]at g1;cases g1;obtain⟨b,ks,eb,h1,h2⟩:=z1J g3;cases eb;have rd:DatS (g.S ow) H2 d' v:=Rep.kp (g:=g) (d:=.p d') (k2.mono Gh.ts) (fun _ z=>.inl z) r;obtain⟨ob,ks',p1,p2,p3,p4⟩:=z43 (S:=g.S ow) (.inr (.inr ⟨(i,0),e1⟩)) (f2.owi _ a e1).2.1 h1 h2 r2 rd c.1 c.2;have nt:=h1.not_tup;have kS:=f2.kpOwn (o:=ob) e1 nt;refine⟨a,_,rfl,p1,q3 _ _ _ (f2.updOwn (z1g ek) e1 nt ?_ p4) (Stp.upd f2 e1 nt)⟩;simp only[Dat1];exact⟨a,ks',rfl,id,p2,DctS.kp kS (fun _ z=>.inl z) p3⟩
 next=>cases e3
noncomputable def Gh.add(g:Gh)(p:Addr)(o:HO):Gh:=⟨g.aS,g.ns,g.aT,fun b=>g.S0 b\/b=p,upd g.H0 p o⟩
theorem Frm.protect{p:Addr}{o:HO}(f:Frm K g ow ρ n σ H)(hp:H p=none):Frm K (g.add p o) ow ρ n σ (upd H p o):=by
 have h0:=f.h0 hp;have s:=Same.new (o:=o) hp;have hS:∀a,(g.add p o).S ow a->g.S ow a\/H a=none:=fun a z=>by
  rcases z with (z | z) | z | z
  ·exact .inl (.inl z)
  ·exact .inr (by rw[z];exact hp)
  ·exact .inl (.inr (.inl z))
  ·exact .inl (.inr (.inr z))
 have s0:Same g.H0 (upd g.H0 p o):=Same.new h0;refine⟨?_,fun a e=>s _ _ (f.twn a e),fun a z=>?_,fun b u h k=>?_,fun i d e=>?_,fun i x e=>?_,fun i kl e=>?_,fun i a e=>?_,f.inj,f.len⟩
 ·rcases f.scr with h | ⟨h1,h2⟩
  ·exact .inl h
  ·exact .inr ⟨h1,s0.seq h2⟩
 ·show upd g.H0 p o a≠none;rcases z with z | z
  ·cases q:g.H0 a with
   | none=>exact absurd q (f.sub a z)
   | some u=>rw[s0 _ _ q];intro z;cases z
  ·rw[z,z6];intro z;cases z
 ·have h:upd g.H0 p o b=some u:=h;by_cases e:b=p
  ·subst e;rw[z6]at h |-;exact h
  ·rw[z9 e]at h |-;exact f.ext b u h k
 ·obtain⟨v,e1,r⟩:=f.val i d e;exact⟨v,e1,(r.kp (Kp.of s) hS).shift rfl rfl fun _ z=>z⟩
 ·obtain⟨a,e0,e1,r⟩:=f.own i x e;refine⟨a,e0,e1,r.move (Kp.of s) hS fun b eb hb hU=>⟨fun o z=>s _ _ z,fun z=>?_⟩⟩;rcases z with (z | z) | z
  ·exact hU (.inl z)
  ·exact hb (by rw[z];exact hp)
  ·exact hU (.inr z)
 ·obtain⟨v,e1,r⟩:=f.dp i kl e;exact⟨v,e1,r.move (fun _ _ z=>z) (fun _ _ _ _ z=>s _ _ z) (Kp.of s) hS⟩
 ·obtain⟨h1,h2,h3,h4⟩:=f.owi i a e;have hap:a≠p:=fun z=>h2.some (by rw[z];exact hp);exact⟨by show upd g.H0 p o a=none;rw[z9 hap];exact h1,(by obtain⟨o',e',n'⟩:=h2;exact⟨o',by rw[z9 hap];exact e',n'⟩),h3,h4⟩
noncomputable def mD1(mk mv:Env'->Mx D):Env'->Mx PyData:=fun ρ=>mk ρ >>= fun k=>mv ρ >>= fun v=>Mx.opt (onP2 (fun k v=>if zv [] k=true then some (.dict [(k,v)])else none) k v)
theorem z8g(hu:X.A.units+64<cLine)(hk:DE K Er X k mk)(hv:DE K Er X v mv):DF K Er X (.Dict [some k] [v] pos) (mD1 mk mv):=(z8o (by omega) hk hv).imp fun σ H Q ⟨g,ow,ρ,n,f,q⟩ p hp=>by
 have f1:=f.protect (o:=.dK []) hp;have er:∀{c n'},(∀H',Kp g.T g.H0 H'->Twn g H' n'->Er c H')->∀H',Kp (g.add p (.dK [])).T (g.add p (.dK [])).H0 H'->Twn (g.add p (.dK [])) H' n'->Er c H':=fun h H' k t=>h H' ((Same.new (f.h0 hp)).kp.trans k) t;have hT:g.aT≠some p:=fun z=>by rw[f.twn p z]at hp;cases hp
 unfold mD1 at q;rw[Mx.bind_def]at q;refine⟨g.add p (.dK []),ow,ρ,n,f1,?_⟩;cases e1:mk ρ n with
 | err c n1=>rw[e1]at q;exact er q
 | bad=>rw[e1]at q;exact q
 | ok kd n1=>
  rw[e1]at q;intro kv H1 k1 t1 r1;have f2:=f1.kp k1 t1;have q:AftG (RF g (g.S ow)) g Er H ((mv ρ >>= fun v=>Mx.opt (onP2 (fun k v=>if zv [] k=true then some (.dict [(k,v)])else none) kd v)) n1) Q:=q;rw[Mx.bind_def]at q;refine⟨g.add p (.dK []),ow,ρ,n1,f2,?_⟩;cases e2:mv ρ n1 with
  | err c n2=>rw[e2]at q;exact er q
  | bad=>rw[e2]at q;exact q
  | ok vd n2=>
   rw[e2]at q;intro vv H2 k2 t2 r2;obtain⟨z,ez,q2⟩:=wU (show AftG (RF g (g.S ow)) g Er H (Mx.opt (onP2 (fun k v=>if zv [] k=true then some (.dict [(k,v)])else none) kd vd) n2) Q from q);obtain⟨kx,vx,rfl,rfl,e3⟩:=zo ez;have hp2:H2 p=some (.dK []):=k2 _ _ (k1 _ _ z6 (.inl hT)) (.inl hT);split at e3
   next c=>
    cases e3;refine⟨hp2,?_⟩;have rk:DatS ((g.add p (.dK [])).S ow) H2 kx kv:=Rep.kp (g:=g.add p (.dK [])) (d:=.p kx) (k2.mono Gh.ts) (fun _ z=>.inl z) r1;have hSp:(g.add p (.dK [])).S ow p:=.inl (.inr rfl);have fin:∀o ks',(∀ob u,o≠.frz ob u)->DctAt (upd H2 p o) p ks'->DctS ((g.add p (.dK [])).S ow) H2 [(kx,vx)] ks'->Q (.ref p) (upd H2 p o):=fun o ks' a0 a1 a2=>by
     have kS:Kp ((g.add p (.dK [])).S ow) H2 (upd H2 p o):=fun b u h z=>by
      by_cases e:b=p
      ·subst e;rcases z with z | ⟨xs,rfl⟩
       ·exact absurd hSp z
       ·rw[hp2]at h;cases h
      ·rw[z9 e];exact h
     refine q2 (.ref p) _ (fun b u h z=>?_) (fun b e=>?_) ⟨p,rfl,hp,Pl.upd a0,?_⟩
     ·have hb:=zL h hp;rw[z9 hb];exact k2 _ _ (k1 _ _ (by rw[z9 hb];exact h) z) z
     ·have hbp:b≠p:=fun z=>hT (by rw[<-z];exact e);rw[z9 hbp];exact t2 b e
     ·simp only[Dat1];refine⟨p,ks',rfl,id,a1,DctS.kp kS (fun b z=>?_) a2⟩;rcases z with (z | z | z) | z
      ·exact .inl (.inl (.inl z))
      ·exact .inl (.inr (.inl z))
      ·exact .inl (.inr (.inr z))
      ·exact .inl (.inl (.inr z))
    cases kx with
    | tuple ds=>
     simp only[zv,Bool.and_eq_true]at c;obtain⟨kk,ek⟩:=Option.isSome_iff_exists.mp c.1;have ed:=wQ ek;obtain⟨b,xs,rfl,hb,hxs⟩:=yF (T:=N0) (DatS.one (fun _ z=>z.elim) rk);rw[ed]at hxs;rw[z0a hxs]at hb;exact .inr ⟨kk,b,rfl,hb,fin _ _ (fun _ _ z=>by cases z) (.inr ⟨_,.inl z6,rfl⟩) (by rw[ed];exact DctS.one r2)⟩
    | int i=>exact .inl ⟨.inl i,z0j (k:=.inl i) rk,fin _ _ (fun _ _ z=>by cases z) (.inl ⟨_,.inl z6,rfl⟩) (DctS.one r2)⟩
    | str i=>exact .inl ⟨.inr i,z0j (k:=.inr i) rk,fin _ _ (fun _ _ z=>by cases z) (.inl ⟨_,.inl z6,rfl⟩) (DctS.one r2)⟩
    | none=>simp[zv,keyD]at c
    | bool _=>simp[zv,keyD]at c
    | list _=>simp[zv,keyD]at c
    | dict _=>simp[zv,keyD]at c
   next=>cases e3
end
end L2
namespace PySem
open AutoSeq1 (wpAny_loadPart')
section
variable{prog:Program}{w:World}{A:Around}{E:Value->Shared->Prop}{s:Shared}
theorem z1l{Q:List Value->Shared->Prop}{r:Addr}{a b:Int}{t u v:Tok}{n:Nat}(hh:A.handled=none)(hr:IsRange s.heap r a b 1 t u v)(hsmall:Builtin.Range.small a b 1=true)(hn:Builtin.Range.rangeSize a b 1=n)(hlen:n<=2 ^ 24)
  (hQ:∀h' tk acc,(∀b o',s.heap.get? b=some o'->h'.get? b=some o')->ItemsOf (fun i v=>∃t,v=.int (a+i*1) t) acc n->Q acc.toList { s with heap:=h',toks:=tk }):wpAny (model prog w) A (collect (.ref r)) Q E s:=by
 unfold collect;refine wpAny_bind (wpAny_runValue (codeAny_builtin F.entry_proto_collect ?_));rw[Around.under_plainId F.plain_proto_collect _];show wpAny _ A.in1 (newList [] >>= fun l=>again (.builtin "list.__iadd__" ⟨[l,.ref r],[]⟩)) _ _ s;refine wpAny_bind (wpAny_newObj_type ?_);refine wpAny_pure ⟨plainId_quiet F.plain_list_iadd _,codeAny_builtin F.entry_list_iadd ?_⟩;rw[Around.under_plainId F.plain_list_iadd _];show wpAny _ A.in1 (Builtin.List.listExtendWith (.ref s.heap.objs.size) (.ref r) (.ref s.heap.objs.size)) _ _ _;have hS:(s.heap.push { cls:=.type "list",data:=.seq ([]:List Value).toArray }).get? s.heap.objs.size=some { cls:=.type "list",data:=.seq #[] 0 }:=Heap.get?_push_size _ rfl;have fin':∀h' tk acc' c',(∀b o,b≠s.heap.objs.size->(s.heap.push { cls:=.type "list",data:=.seq ([]:List Value).toArray }).get? b=some o->h'.get? b=some o)->h'.get? s.heap.objs.size=some { cls:=.type "list",dict:=none,data:=.seq acc' c',slots:=#[] }->
   ItemsOf (fun i v=>∃t,v=.int (a+i*1) t) acc' n->wpAny (model prog w) A (match Value.ref s.heap.objs.size with
   | Value.ref a=>do
    match (<-load a).data with
     | Data.seq xs _=>pure xs.toList
     | _=>unsupported "internal:collect"
   | _=>unsupported "internal:collect") Q E { s with heap:=h',toks:=tk }:=fun h' tk acc' c' hk hs hacc=>by
  show wpAny _ A (load s.heap.objs.size >>= _) _ _ _;refine wpAny_bind (wpAny_load hs ?_);exact wpAny_pure (hQ h' tk acc' (fun b o e=>hk b o (Nat.ne_of_lt (Heap.lt_size e)) (Heap.get?_push_of_some _ e)) hacc)
 refine wpAny_mono (wpAny_extend_range (A:=A) (R:=fun r s'=>r=.ok (.ret (.ref s.heap.objs.size))/\wpAny (model prog w) A (match Value.ref s.heap.objs.size with
   | Value.ref a=>do
    match (<-load a).data with
     | Data.seq xs _=>pure xs.toList
     | _=>unsupported "internal:collect"
   | _=>unsupported "internal:collect") Q E s')
  (s:={ s with heap:=s.heap.push { cls:=.type "list",data:=.seq ([]:List Value).toArray } }) hh (Heap.get?_push_of_some _ hr) hsmall hn hlen _ _ 0 hS fun h' tk acc' c' hk hs hacc=>⟨rfl,fin' h' tk acc' c' hk hs hacc⟩) (fun fin s' h=>?_) (fun e s' h=>?_)
 ·cases fin with
  | done f=>
   obtain⟨e,h⟩:=h;cases e;exact h
  | again c'=>exact⟨h.1,codeAny_mono h.2 fun r s'' hr=>by obtain⟨rfl,hr⟩:=hr;exact hr⟩
 ·exact absurd h.1 (by simp)
theorem xC(r:Addr)(o:Obj)(a b:Int)(t u v:Tok)(n:Nat)(ho:o={ cls:=.type "range",data:=.fields #[.int a t,.int b u,.int 1 v] })(hsmall:Builtin.Range.small a b 1=true)(hn:Builtin.Range.rangeSize a b 1=n)(hlen:n<=2 ^ 24):
  Meets (Builtin.«tuple.__new__» ⟨[.type "tuple",.ref r],[]⟩)
   (fun A R s=>A.handled=none/\s.heap.get? r=some o/\∀(h':Heap) (tk:Nat) (acc:Array Value),(∀b o',s.heap.get? b=some o'->h'.get? b=some o')->ItemsOf (fun i v=>∃t,v=.int (a+i*1) t) acc n->R (.ok (.ret (.ref h'.objs.size))) { s with heap:=h'.push { cls:=.type "tuple",data:=.seq acc },toks:=tk }):=
 .of_wp fun prog w A R s h=>by
  obtain⟨hp,g,d,tk,os⟩:=s;obtain⟨hh,ht,h⟩:=h;have hsub:=sub_tuple_self;have hinit:=init_tuple_lookup;have hmh:=madeHere_tuple;have hT:Shared.TypeIs ⟨hp,g,d,tk,os⟩ (.ref r) "range":=⟨o,ht,by rw[ho]⟩
  wp_walk using wpAny_loadPart' ht,wpAny_typeOf hT,z1l (A:=A.in1) hh (by rw[ho]at ht;exact ht) hsmall hn hlen
  intro h' tk' acc hk hacc;show wpAny _ _ (Builtin.Tuple.tupleExact acc.toList.toArray >>= fun v=>ret v) _ _ _;unfold Builtin.Tuple.tupleExact;refine wpAny_bind (wpAny_newObj_type ?_ (by show acc.toList.toArray.size<=sizeLine;rw[sizeLine_eq];simp;rw[hacc.1];omega));refine wpAny_pure ⟨_,rfl,?_⟩;have e:acc.toList.toArray=acc:=by simp
  rw[e];exact h h' tk' acc hk hacc
theorem uQ{r:Addr}{a b:Int}{t u v:Tok}{n:Nat}{Q:Value->Shared->Prop}(hh:A.handled=none)(hr:IsRange s.heap r a b 1 t u v)(hsmall:Builtin.Range.small a b 1=true)(hn:Builtin.Range.rangeSize a b 1=n)(hlen:n<=2 ^ 24)
  (h:∀(h':Heap) (tk:Nat) (acc:Array Value),(∀b o',s.heap.get? b=some o'->h'.get? b=some o')->ItemsOf (fun i v=>∃t,v=.int (a+i*1) t) acc n->Q (.ref h'.objs.size) { s with heap:=h'.push { cls:=.type "tuple",data:=.seq acc },toks:=tk }) :
  wpAny (model prog w) A (call (.type "tuple") [.ref r]) Q E s:=
 callType_new F.called_tuple (by decide) (F.typeCall_tuple_1 _) (F.newCall_tuple_1 _) (fun obj=>F.args_object_init_2 obj _) F.entry_tuple_new
  (xC r _ a b t u v n rfl hsmall hn hlen) ⟨hh,hr,fun h' tk acc hk hacc=>⟨⟨_,Heap.get?_push_size _ rfl,rfl⟩,h h' tk acc hk hacc⟩⟩
end
end PySem
namespace L2
open PySem PySem.Spec PyProof.Rows
noncomputable def rngV(lo:Int)(n:Nat):List V:=(List.range n).map fun(i:Nat)=>V.int (lo+(i:Int))
theorem z2A{acc:Array Value}{lo:Int}{n:Nat}(h:ItemsOf (fun i v=>∃t,v=.int (lo+i*1) t) acc n):Vals (rngV lo n) acc.toList:=by
 have gen:∀(l:List Value) (k:Nat),(∀(j:Nat) (v:Value),l[j]?=some v->∃t,v=Value.int (lo+((k+j:Nat):Int)) t)->Vals ((List.range' k l.length).map fun(i:Nat)=>V.int (lo+(i:Int))) l:=by
  intro l
  induction l with
  | nil=>intro k _;exact .nil
  | cons x r ih=>
   intro k hk;rw[List.length_cons,List.range'_succ,List.map_cons];refine .cons ?_ (ih (k+1) fun j v e=>?_)
   ·obtain⟨t,e⟩:=hk 0 x rfl;exact⟨t,by simpa using e⟩
   ·obtain⟨t,e2⟩:=hk (j+1) v (by simpa using e);exact⟨t,by rw[e2,show k+(j+1)=k+1+j by omega]⟩
 have:=gen acc.toList 0 fun j v e=>by
  obtain⟨t,e2⟩:=h.2 j v (by simpa using e);exact⟨t,by rw[e2];simp⟩
 unfold rngV;rw[List.range_eq_range',<-h.1];simpa using this
section
variable{X:Cx}{a b:Expr}{ta:TA}{p pos:Pos}
noncomputable def z6t(ta:TA):TE:=fun σ H Q=>ta σ H fun vs H1=>∃j:Int,vs=[.int j]/\∀q,H1 q=none->Q (.ref q) (upd H1 q (.rng 0 j))
theorem z0H(hg:Gl X "range")(hm:X.mg "range"=none)(ha:PA X [a] ta)(hs:starEach [a] X.env=[(false,eval a X.env)]:=by rfl):PE X (.Call (.Name "range" p) [a] [] pos) (z6t ta):=by
 intro pins s σ H Q I h;refine Call_ (wZ I hg hm boot_range (PyProof.Rows.callWith_type1 (thn (ha pos pins s σ H _ I h) fun us s1 ⟨vs,H1,I1,r1,q1⟩=>?_) hs rfl));obtain⟨j,e,q⟩:=q1;subst e;cases r1 with
 | cons r rr=>
  cases rr;obtain⟨t,rfl⟩:=r;refine call_range_1 ⟨.ref s1.heap.objs.size,_,I1.laid (t':=s1.toks+1+1) (o:=.rng 0 j) (fun b o e=>Heap.get?_push_of_some _ e) (Nat.le_refl _) ?_,rfl,q _ (I1.hok.fresh (Nat.le_refl _))⟩;exact⟨_,_,_,Heap.get?_push_size _ rfl⟩
theorem uH(hc:X.calm=true):CallR X (.type "tuple") (fun xs H Q=>∃q lo hi,xs=[.ref q]/\H q=some (.rng lo hi)/\(-1000000<=lo/\lo<=1000000)/\(-1000000<=hi/\hi<=1000000)/\∀l H',Same H H'->H' l=some (.tup (rngV lo (hi - lo).toNat))->Q (.ref l) H'):=by
 intro pins s σ H xs us Q I r h;obtain⟨q,lo,hi,rfl,hq,h1,h2,k⟩:=h;obtain⟨u,rfl,rx⟩:=yq r;cases rx;obtain⟨t,u,v,e⟩:=(show ObjOk X.prog X.w H s.heap q (.rng lo hi) from I.hok q _ hq);have hn:Builtin.Range.rangeSize lo hi 1=((hi - lo).toNat:Nat):=by rw[rangeSize_one];split<;>omega
 refine uQ (I.ok.hd hc) e (small_one (by omega) (by omega) (by omega) (by omega)) hn (by omega) fun h' tk acc hk hacc=>?_;have I1:Inv X pins σ H { s with heap:=h',toks:=tk }:=I.kept hk;have rv:=z2A hacc;have I2:Inv X pins σ (upd H h'.objs.size (.tup (rngV lo (hi - lo).toNat))) { s with heap:=h'.push { cls:=.type "tuple",data:=.seq acc },toks:=tk }:=
  I1.laid (fun b o e=>Heap.get?_push_of_some _ e) (Nat.le_refl _) (show ObjOk X.prog X.w _ _ _ (.tup (rngV lo (hi - lo).toNat)) from⟨⟨by rw[rv.length,Array.length_toList,hacc.1,sizeLine_eq];omega,_,Heap.get?_push_size _ rfl,rfl⟩,acc.toList,rv,⟨_,Heap.get?_push_size _ rfl,rfl,_,rfl⟩⟩)
 exact⟨.ref h'.objs.size,_,I2,rfl,k _ _ (Same.new (I1.hok.fresh (Nat.le_refl _))) z6⟩
theorem um(hc:X.calm=true):CallR X (.type "list") (fun xs H Q=>∃q lo hi,xs=[.ref q]/\H q=some (.rng lo hi)/\(-1000000<=lo/\lo<=1000000)/\(-1000000<=hi/\hi<=1000000)/\∀l,H l=none->Q (.ref l) (upd H l (.lst (rngV lo (hi - lo).toNat)))):=by
 intro pins s σ H xs us Q I r h;obtain⟨q,lo,hi,rfl,hq,h1,h2,k⟩:=h;obtain⟨u,rfl,rx⟩:=yq r;cases rx;obtain⟨t,u,v,e⟩:=(show ObjOk X.prog X.w H s.heap q (.rng lo hi) from I.hok q _ hq);have hn:Builtin.Range.rangeSize lo hi 1=((hi - lo).toNat:Nat):=by rw[rangeSize_one];split<;>omega
 refine call_list_range (I.ok.hd hc) e (small_one (by omega) (by omega) (by omega) (by omega)) hn (by omega) fun h' tk acc c hk hS hacc=>?_;have rv:=z2A hacc;exact⟨.ref s.heap.objs.size,_,I.laid hk (Nat.le_refl _) (show ObjOk X.prog X.w _ _ _ (.lst (rngV lo (hi - lo).toNat)) from⟨by rw[rv.length,Array.length_toList,hacc.1,sizeLine_eq];omega,acc.toList,c,rv,hS⟩),rfl,k _ (I.hok.fresh (Nat.le_refl _))⟩
end
section
variable{K:W.Frag}{Er:Str->Hp->Prop}{X:Cx}{e a b:Expr}{es:List Expr}{ms:Env'->Mx (List D)}{pos:Pos}
variable{g:Gh}{ow:Ix->Option Addr}{ρ:Env'}{n n':Nat}{σ:St}{H H' H1:Hp}
noncomputable def fRg1(j:List PyData->PyData):List PyData->Option PyData:=fun ds=>(yW ds).map j
theorem z0z{S:Addr->Prop}{lo hi:Int}:DatsS S H (rngD lo hi) (rngV lo (hi - lo).toNat):=wJ (fun i=>lo+(i:Int)) _
theorem z2X{ds:List PyData}{r:List PyData}(h:yW ds=some r):∃j,ds=[.int j]/\(-1000000<=j/\j<=1000000)/\r=rngD 0 j:=by
 unfold yW at h;split at h
 next j=>
  split at h
  next hl=>cases h;exact⟨j,rfl,hl,rfl⟩
  next=>cases h
 next=>cases h
noncomputable abbrev z92:List V->Hp->VK->Prop:=fun xs H Q=>∃q lo hi,xs=[.ref q]/\H q=some (.rng lo hi)/\(-1000000<=lo/\lo<=1000000)/\(-1000000<=hi/\hi<=1000000)/\∀l H',Same H H'->H' l=some (.tup (rngV lo (hi - lo).toNat))->Q (.ref l) H'
theorem wB(h:PE X e (tCB z92 (xb (z6t (rdG RAW K Er ms)) tNil))):DE K Er X e (mCallB (fRg1 PyData.tuple) ms):=z6h (fun σ H Q hq=>by
 obtain⟨g,ow,ρ,n,f,q⟩:=hq;refine⟨g,ow,ρ,n,f,q.imp (fun _ _ _ z=>z) fun vs H1 ⟨S,ds,r,hS,h1,hf,q⟩=>?_⟩;obtain⟨z,ez,ez2⟩:=Option.map_eq_some_iff.mp hf;obtain⟨j,rfl,hj,rfl⟩:=z2X ez;subst ez2;obtain⟨v,rfl,rv⟩:=all1 h1;refine⟨j,by rw[zY rv],fun p hp=>⟨p,0,j,rfl,z6,⟨by decide,by decide⟩,hj,fun l H' s hl=>q _ _ ((Same.new hp).trans s) (u4 hl z0z)⟩⟩) h
noncomputable def z2o(f:List PyData->Option (List PyData))(ms:Env'->Mx (List D)):Env'->Mx PyData:=fun ρ=>ms ρ >>= fun ds=>Mx.opt ((onPs f ds).map PyData.list)
theorem z89{f:List PyData->Option (List PyData)}{t:TE}(hp:PE X e t)
  (h:∀σ H Q,rdG RAW K Er ms σ H (fun vs H1=>∃S ds zs,(∀a,S a->H1 a≠none)/\All2 (Dat1 N0 S H1) ds vs/\f ds=some zs/\∀p H2 ys,Same H1 H2->H2 p=none->DatsS S H2 zs ys->Q (.ref p) (upd H2 p (.lst ys)))->t σ H Q):DF K Er X e (z2o f ms):=hp.imp fun σ H Q hq=>h σ H Q (rd1 hq xu fun g ow ρ n ds vs H0 H2 fr _ r q=>by
 obtain⟨z,e,q2⟩:=wU q;obtain⟨zs,ez,ez2⟩:=Option.map_eq_some_iff.mp e;subst ez2;obtain⟨xs,e1,e2⟩:=Option.bind_eq_some_iff.mp ez;refine⟨g.S ow,xs,zs,fr.dom,z45 e1 r,e2,fun p H3 ys s hn dd=>?_⟩;have s2:=Same.new (o:=.lst ys) hn;refine q2 (.ref p) _ (s.trans s2).kp ((s.trans s2).twn fr.twn) ⟨p,rfl,s.free hn,Pl.upd,?_⟩;simp only[Dat1];exact⟨p,ys,rfl,id,z6,DatsS.kp (Kp.of s2) (fun b z=>z.elim .inl fun e=>.inr (e▸hn)) dd⟩)
noncomputable abbrev z8m:List V->Hp->VK->Prop:=fun xs H Q=>∃q lo hi,xs=[.ref q]/\H q=some (.rng lo hi)/\(-1000000<=lo/\lo<=1000000)/\(-1000000<=hi/\hi<=1000000)/\∀l,H l=none->Q (.ref l) (upd H l (.lst (rngV lo (hi - lo).toNat)))
theorem wX(h:PE X e (tCB z8m (xb (z6t (rdG RAW K Er ms)) tNil))):DF K Er X e (z2o yW ms):=z89 h fun σ H Q hq=>by
 obtain⟨g,ow,ρ,n,f,q⟩:=hq;refine⟨g,ow,ρ,n,f,q.imp (fun _ _ _ z=>z) fun vs H1 ⟨S,ds,zs,hS,h1,hf,q⟩=>?_⟩;obtain⟨j,rfl,hj,rfl⟩:=z2X hf;obtain⟨v,rfl,rv⟩:=all1 h1;exact⟨j,by rw[zY rv],fun p hp=>⟨p,0,j,rfl,z6,⟨by decide,by decide⟩,hj,fun l hl=>q l _ _ (Same.new hp) hl z0z⟩⟩
noncomputable def fSum:List PyData->Option PyData
 | [.list ds]=>(zh ds).bind fun ns=>if ns.length<=1000/\ns.all (fun n=>decide (0<=n/\n<=1000000))=true then some (.int ns.sum)else none
 | _=>none
theorem z8K(hc:X.calm=true):CallR X (.builtin "sum") (rDn fSum):=(z3I hc).imp fun vs H Q ⟨S,ds,r,hS,h1,hf,q⟩=>by
 match ds,hf,h1 with
 | [.list xs],hf,h1=>
  obtain⟨ns,e,e2⟩:=Option.bind_eq_some_iff.mp hf;split at e2
  next c=>
   cases e2;obtain⟨v,rfl,r⟩:=all1 h1;obtain⟨a,ys,rfl,g1,k1⟩:=yI r;rw[y9 e]at k1;rw[k1.ints]at g1;exact⟨a,ns,rfl,SqL.of g1,c.1,fun n hn=>of_decide_eq_true (List.all_eq_true.mp c.2 n hn),q _ _ (Same.refl _) di⟩
  next=>cases e2
noncomputable def sPar(i j:Nat)(ms:Env'->Mx (List D)):Env'->Mx Out:=fun ρ=>ms ρ >>= fun ds=>match ds with
 | [x,y]=>pure (.nx ((ρ.set i (some (Sl.val x))).set j (some (Sl.val y))))
 | _=>Mx.bad
theorem z4h{i j:Nat}{x y:Str}{px py pt:Pos}{kt k2 pt2}(hc:X.calm=true)(hN:X.N.Nodup)(hi:X.N[i]?=some x)(hj:X.N[j]?=some y)(hij:i≠j)
  (hx:X.env.scope.names.lookup x=some .local) (hy:X.env.scope.names.lookup y=some .local) (ha:DA K Er X [a,b] ms)
  (hw:swappedStores [.Tuple [.Name x px,.Name y py] kt pt] (.Tuple [a,b] k2 pt2) X.env=pure (some [x,y]))
  (hs:swapsWithSole [.Tuple [.Name x px,.Name y py] kt pt] (.Tuple [a,b] k2 pt2) pos.line X.env=pure false:=by rfl) :
  DS K Er X (.Assign [.Tuple [.Name x px,.Name y py] kt pt] (.Tuple [a,b] k2 pt2) pos) (sPar i j ms):=(z7C hc hN hi hj hij hx hy ha hw hs).imp fun σ H E h=>rs1 h fun g ow ρ n n1 ds vs H1 f k f1 r q=>by
 match ds,q,r with
 | [x,y],q,r=>
  obtain⟨v,u,rfl,r1,r2⟩:=all2 r;refine⟨v,u,rfl,?_⟩;have f2:=f1.setVal (i:=i) r1;exact q _ _ _ (f2.setVal (i:=j) (r2.shift rfl rfl fun a z=>z93 z)) (Stp.put.trans f2.dom Stp.put)
 | [],q,_=>exact q.elim
 | [_],q,_=>exact q.elim
 | _::_::_::_,q,_=>exact q.elim
end
noncomputable def z4Z(K:W.Frag):Sp:=fun vs H Q _=>∃(a:Addr) (ns:List Int),vs=[.ref a]/\SqL K H a (ns.map V.int)/\ns.length<=63/\∀H',Q (.bl true) H'
noncomputable def xl(nn:Nat)(ns:List Int):Env':=some (Sl.val (.scr ns))::some (Sl.val .town)::List.replicate (nn - 2) none
def z6e(nn:Nat)(m:Env'->Mx Out):Prop:=∀ns:List Int,ns.length<=63->∃n',m (xl nn ns) 0=.ok (.rt (.p (.bool true))) n'
theorem z40{K:W.Frag}{Er:Str->Hp->Prop}{m:Env'->Mx Out}{nn:Nat}{ns:List Int}{a tw:Addr}{H:Hp}{σ:St}{E:Ends}(hσ:σ=some (.ref a)::some (.ref tw)::List.replicate (nn - 2) none)(hS:SqL K H a (ns.map V.int))(htw:H tw=none)
  (hm:∃n',m (xl nn ns) 0=.ok (.rt (.p (.bool true))) n') (hE:∀H',E.rt (.bl true) H'):rdS K Er m E σ (upd H tw (.lst [])):=by
 obtain⟨n',hm⟩:=hm;subst hσ;refine⟨⟨a,ns,some tw,fun _=>False,upd H tw (.lst [])⟩,fun _=>none,xl nn ns,0,⟨?_,?_,fun _ z=>z.elim,Kp.refl _ _,fun i d e=>?_,fun i x e=>?_,fun i kl e=>?_,fun i a e=>(nomatch e),fun i j a e=>(nomatch e),?_⟩,?_⟩
 ·rcases hS with hS | hS
  ·refine .inr ⟨fun z=>?_,(Same.new htw).seq (.inl hS)⟩;have z:tw=a:=Option.some.inj z;rcases hS with z2 | ⟨o,z2⟩
   ·rw[<-z,htw]at z2;cases z2
   ·rw[<-z,htw]at z2;cases z2
  ·exact .inl fun _=>.inr hS
 ·intro b e;have e:tw=b:=Option.some.inj e;rw[<-e,z6];rfl
 ·unfold xl at e
  match i,e with
  | 0,e=>cases e;exact⟨.ref a,rfl,rfl,rfl⟩
  | 1,e=>cases e;exact⟨.ref tw,rfl,tw,rfl,rfl⟩
  | i+2,e=>
   have e:(List.replicate (nn - 2) (none:Option Sl))[i]?=some (some (Sl.val d)):=e;rw[List.getElem?_replicate]at e;split at e<;>cases e
 ·unfold xl at e
  match i,e with
  | 0,e=>cases e
  | 1,e=>cases e
  | i+2,e=>
   have e:(List.replicate (nn - 2) (none:Option Sl))[i]?=some (some (Sl.own x)):=e;rw[List.getElem?_replicate]at e;split at e<;>cases e
 ·unfold xl at e
  match i,e with
  | 0,e=>cases e
  | 1,e=>cases e
  | i+2,e=>
   have e:(List.replicate (nn - 2) (none:Option Sl))[i]?=some (some (Sl.deep kl)):=e;rw[List.getElem?_replicate]at e;split at e<;>cases e
 ·simp[xl]
 ·rw[hm];intro v H' _ _ r
  have:v=.bl true:=by simpa only[Rep,DatS]using r
  rw[this];exact hE H'
theorem z8S{P:Program}{w:World}{K:W.Frag}{mg:Str->Option Value}{base:Heap}{x qual:Str}{st:Stmt}{f:Addr}{fd:FuncData}{N:List Str}{k nn:Nat}{m:Env'->Mx Out}{s0:Stmt}{rest:List Stmt}(F:Fun K x qual st f fd)(S:FnScope N ["_law_script"] (z5 st))(hn:N.length=nn)(h2:2<=nn)(hb:zy st=s0::rest)
  (h0:∀(cdv:Value) (A:Around) (outer:List Env) (s:Shared) (H:Hp) (E:XK),PS (cxOf CX0 P w K mg base N qual (z5 st) f cdv A outer s H E).nox s0 (tAsg (tLst tNil) (uR 1)))
  (h:∀(cdv:Value) (A:Around) (outer:List Env) (s:Shared) (H:Hp) (E:XK),Room k (A.deeper (envOfC qual (z5 st) s.heap.objs.size f cdv))->DSs K (fun _ _=>False) (cxOf CX0 P w K mg base N qual (z5 st) f cdv A outer s H E).nox rest m) (tells:z6e nn m) :
  FnOk P w K mg base CX0 (k+1) f fd ["_law_script"] (z4Z K):=by
 subst hn;refine F.ok S (fun vs H Q E h=>?_) fun cdv A outer s H vs Q E hr hsp=>?_
 ·obtain⟨a,ns,rfl,_⟩:=h;rfl
 ·obtain⟨a,ns,rfl,hS,hl,hq⟩:=hsp;rw[hb];refine⟨_,yf (h0 cdv A outer s H E) (h cdv A outer s H E hr),Nat.zero_le _,fun tw htw=>?_⟩;refine z40 (nn:=N.length) ?_ hS htw (tells ns hl) fun H'=>hq H';unfold start;obtain⟨j,hj⟩:∃j,N.length=j+2:=⟨N.length - 2,by omega⟩;rw[hj];rfl
open PySem
set_option genInjectivity false in
set_option genSizeOfSpec false in
structure Fn1 where
 a:Addr
 d:FuncData
structure FT(K:W.Frag)(mg:Str->Option Value)(x:Str)(ps:List Str)(st:Stmt)(t:Fn1):Prop where
 F:Fun K x x st t.a t.d
 m:mg x=some (.ref t.a)
 k:W.keepIn K (.ref t.a)=true
 d:Binds K t.d ps []
set_option genInjectivity false in
set_option genSizeOfSpec false in
structure Hd where
 f:Addr
 oc:Value
 od:Option Addr
 an:Option Addr
 sl:Array (Option Value)
 kV:Value
 dc:Value
 pm:Value
 cd:Value
 ct:Value
noncomputable def Hd.t(y:Hd)(x:Str)(st:Stmt):Fn1:=⟨y.f,W.fnOf x x (yX st) (zy st) (z5 st) .none y.kV y.dc y.pm y.an y.cd y.ct⟩
structure Giv(K:W.Frag)(x:Str)(st:Stmt)(y:Hd):Prop where
 a:W.nsIn K mainGlobals x=some (some (.ref y.f))
 l:K.lookup y.f=some ⟨y.oc,y.od,.func (y.t x st).d,y.sl⟩
 c:W.codeIn K y.cd x=true
 k:W.keepIn K (.ref y.f)=true
theorem Giv.of{K:W.Frag}{x:Str}{st:Stmt}{f:Addr}{oc kV dc pm cd ct:Value}{od an:Option Addr}{sl:Array (Option Value)}(a:W.nsIn K mainGlobals x=some (some (.ref f)))
  (l:K.lookup f=some ⟨oc,od,.func (W.fnOf x x (yX st) (zy st) (z5 st) .none kV dc pm an cd ct),sl⟩) (c:W.codeIn K cd x=true) (k:W.keepIn K (.ref f)=true):Giv K x st ⟨f,oc,od,an,sl,kV,dc,pm,cd,ct⟩:=⟨a,l,c,k⟩
theorem Giv.fn{K:W.Frag}{x:Str}{st:Stmt}{y:Hd}(g:Giv K x st y):Fun K x x st (y.t x st).a (y.t x st).d:=z7y (st:=st) g.l g.c g.k
theorem Giv.ft{K:W.Frag}{h:Heap}{mg:Str->Option Value}{x:Str}{st:Stmt}{y:Hd}{ps:List Str}(g:Giv K x st y)(X:K.In h)(G:h.Ns mainGlobals mg)(b:Binds K (y.t x st).d ps []):FT K mg x ps st (y.t x st):=⟨g.fn,W.mg_of X G g.a,g.k,b⟩
theorem Giv.f1{K:W.Frag}{h:Heap}{mg:Str->Option Value}{x p0:Str}{st:Stmt}{y:Hd}(g:Giv K x st y)(X:K.In h)(G:h.Ns mainGlobals mg)(b:∀(kV doc pm:Value) (an:Option Addr) (cdv ct u0:Value),bindArgs (W.fnOf x x (yX st) (zy st) (z5 st) .none kV doc pm an cdv ct) ⟨[u0],[]⟩=pure [(p0,u0)]):FT K mg x [p0] st (y.t x st):=
 g.ft X G (g.fn.binds fun kV doc pm an cdv ct us hl=>by
  match us,hl with
  | [u0],_=>exact b ..)
theorem Giv.f2{K:W.Frag}{h:Heap}{mg:Str->Option Value}{x p0 p1:Str}{st:Stmt}{y:Hd}(g:Giv K x st y)(X:K.In h)(G:h.Ns mainGlobals mg)(b:∀(kV doc pm:Value) (an:Option Addr) (cdv ct u0 u1:Value),bindArgs (W.fnOf x x (yX st) (zy st) (z5 st) .none kV doc pm an cdv ct) ⟨[u0,u1],[]⟩=pure [(p0,u0),(p1,u1)]):FT K mg x [p0,p1] st (y.t x st):=
 g.ft X G (g.fn.binds fun kV doc pm an cdv ct us hl=>by
  match us,hl with
  | [u0,u1],_=>exact b ..)
theorem Giv.f3{K:W.Frag}{h:Heap}{mg:Str->Option Value}{x p0 p1 p2:Str}{st:Stmt}{y:Hd}(g:Giv K x st y)(X:K.In h)(G:h.Ns mainGlobals mg)(b:∀(kV doc pm:Value) (an:Option Addr) (cdv ct u0 u1 u2:Value),bindArgs (W.fnOf x x (yX st) (zy st) (z5 st) .none kV doc pm an cdv ct) ⟨[u0,u1,u2],[]⟩=pure [(p0,u0),(p1,u1),(p2,u2)]):FT K mg x [p0,p1,p2] st (y.t x st):=
 g.ft X G (g.fn.binds fun kV doc pm an cdv ct us hl=>by
  match us,hl with
  | [u0,u1,u2],_=>exact b ..)
theorem Giv.f4{K:W.Frag}{h:Heap}{mg:Str->Option Value}{x p0 p1 p2 p3:Str}{st:Stmt}{y:Hd}(g:Giv K x st y)(X:K.In h)(G:h.Ns mainGlobals mg)(b:∀(kV doc pm:Value) (an:Option Addr) (cdv ct u0 u1 u2 u3:Value),bindArgs (W.fnOf x x (yX st) (zy st) (z5 st) .none kV doc pm an cdv ct) ⟨[u0,u1,u2,u3],[]⟩=pure [(p0,u0),(p1,u1),(p2,u2),(p3,u3)]):FT K mg x [p0,p1,p2,p3] st (y.t x st):=
 g.ft X G (g.fn.binds fun kV doc pm an cdv ct us hl=>by
  match us,hl with
  | [u0,u1,u2,u3],_=>exact b ..)
theorem z3M(b:List Int):HT.lexLt b []=false:=by cases b<;>rfl
theorem wo:∀a:List Int,HT.lexLt a a=false
 | []=>rfl
 | x::r=>by rw[HT.lexLt_cons,if_pos rfl];exact wo r
theorem z1w:∀{a b:List Int},HT.lexLt a b=false->HT.lexLt b a=false->a=b
 | [],[],_,_=>rfl
 | [],_::_,h,_=>by cases h
 | _::_,[],_,h=>by cases h
 | x::r,y::s,h,k=>by
  rw[HT.lexLt_cons]at h k;by_cases e:x=y
  ·subst e;rw[if_pos rfl]at h k;rw[z1w h k]
  ·rw[if_neg e]at h;rw[if_neg (Ne.symm e)]at k;have h1:=of_decide_eq_false h;have h2:=of_decide_eq_false k;omega
theorem x3:∀{a b c:List Int},HT.lexLt a b=true->HT.lexLt b c=true->HT.lexLt a c=true
 | a,b,[],_,k=>by rw[z3M]at k;cases k
 | a,[],_::_,h,_=>by rw[z3M]at h;cases h
 | [],_::_,_::_,_,_=>rfl
 | x::r,y::s,z::t,h,k=>by
  rw[HT.lexLt_cons]at h k |-;by_cases e1:x=y
  ·subst e1;rw[if_pos rfl]at h;by_cases e2:x=z
   ·subst e2;rw[if_pos rfl]at k |-;exact x3 h k
   ·rw[if_neg e2]at k |-;exact k
  ·rw[if_neg e1]at h;have h1:=of_decide_eq_true h;by_cases e2:y=z
   ·subst e2;rw[if_neg e1];exact h
   ·rw[if_neg e2]at k;have h2:=of_decide_eq_true k;rw[if_neg (by omega)];exact decide_eq_true (by omega)
noncomputable def rank(k:Nat->List Int)(n i:Nat):Int:=(((List.range n).filter fun j=>HT.lexLt (k j) (k i)).length:Nat)
theorem uK{α:Type}{p q:α->Bool}:∀{l:List α},(∀x∈l,p x=true->q x=true)->(l.filter p).length<=(l.filter q).length
 | [],_=>Nat.le_refl _
 | x::r,h=>by
  have ih:=uK (l:=r) fun y hy=>h y (List.mem_cons_of_mem _ hy);rw[List.filter_cons,List.filter_cons];by_cases hp:p x=true
  ·rw[if_pos hp,if_pos (h x List.mem_cons_self hp)];simp only[List.length_cons];omega
  ·rw[if_neg hp];split
   ·simp only[List.length_cons];omega
   ·exact ih
theorem z0r{α:Type}{p q:α->Bool}{z:α}(hz:p z=false)(hq:q z=true):∀{l:List α},z∈l->(∀x∈l,p x=true->q x=true)->(l.filter p).length<(l.filter q).length
 | [],m,_=>nomatch m
 | x::r,m,h=>by
  have h':∀y∈r,p y=true->q y=true:=fun y hy=>h y (List.mem_cons_of_mem _ hy);rw[List.filter_cons,List.filter_cons];rcases List.mem_cons.mp m with e | m
  ·subst e;rw[if_neg (by rw[hz];exact Bool.false_ne_true),if_pos hq,List.length_cons]
   have:=uK h';omega
  ·have ih:=z0r hz hq m h';by_cases hp:p x=true
   ·rw[if_pos hp,if_pos (h x List.mem_cons_self hp),List.length_cons,List.length_cons];omega
   ·rw[if_neg hp];split
    ·rw[List.length_cons];omega
    ·exact ih
theorem z1n{k:Nat->List Int}{n i j:Nat}(hi:i<n):decide (rank k n i<rank k n j)=HT.lexLt (k i) (k j):=by
 unfold rank;cases h:HT.lexLt (k i) (k j)with
 | true=>
  refine decide_eq_true ?_
  have:=z0r (p:=fun x=>HT.lexLt (k x) (k i)) (q:=fun x=>HT.lexLt (k x) (k j)) (z:=i) (wo _) h (List.mem_range.mpr hi) fun x _ hx=>x3 hx h;omega
 | false=>
  refine decide_eq_false ?_
  have:=uK (l:=List.range n) (p:=fun x=>HT.lexLt (k x) (k j)) (q:=fun x=>HT.lexLt (k x) (k i)) fun x _ hx=>by
   cases h2:HT.lexLt (k j) (k i)with
   | true=>exact x3 hx h2
   | false=>rw[z1w h h2];exact hx
  omega
theorem xN{α:Type}{key:α->List Int}:∀{l1 l2:List α},l1.Perm l2->l1.Pairwise (fun a b=>HT.lexLt (key b) (key a)=false)->l2.Pairwise (fun a b=>HT.lexLt (key b) (key a)=false)->(∀a∈l1,∀b∈l1,key a=key b->a=b)->l1=l2
 | [],l2,p,_,_,_=>(List.nil_perm.mp p).symm
 | a::r,[],p,_,_,_=>by have:=p.length_eq;simp at this
 | a::r,b::s,p,h1,h2,hk=>by
  obtain⟨a1,a2⟩:=List.pairwise_cons.mp h1;obtain⟨b1,b2⟩:=List.pairwise_cons.mp h2;have mb:b∈a::r:=p.mem_iff.mpr List.mem_cons_self;have ma:a∈b::s:=p.mem_iff.mp List.mem_cons_self;have e1:HT.lexLt (key b) (key a)=false:=by
   rcases List.mem_cons.mp mb with e | m
   ·rw[e];exact wo _
   ·exact a1 b m
  have e2:HT.lexLt (key a) (key b)=false:=by
   rcases List.mem_cons.mp ma with e | m
   ·rw[e];exact wo _
   ·exact b1 a m
  have e:a=b:=hk a List.mem_cons_self b mb (z1w e2 e1);subst e;rw[xN ((List.perm_cons a).mp p) a2 b2 fun x hx y hy=>hk x (List.mem_cons_of_mem _ hx) y (List.mem_cons_of_mem _ hy)]
noncomputable def insB{α:Type}(key:α->List Int)(x:α):List α->List α
 | []=>[x]
 | y::r=>if HT.lexLt (key x) (key y)=true then x::y::r else y::insB key x r
noncomputable def wG{α:Type}(key:α->List Int):List α->List α
 | []=>[]
 | x::r=>insB key x (wG key r)
theorem insB_perm{α:Type}{key:α->List Int}{x:α}:∀{l:List α},(insB key x l).Perm (x::l)
 | []=>List.Perm.refl _
 | y::r=>by
  unfold insB;split
  ·exact List.Perm.refl _
  ·exact((insB_perm (l:=r)).cons y).trans (List.Perm.swap x y r)
theorem xD{α:Type}{key:α->List Int}:∀(l:List α),(wG key l).Perm l
 | []=>List.Perm.refl _
 | x::r=>insB_perm.trans ((xD r).cons x)
theorem uA{α:Type}{key:α->List Int}{x:α}:∀{l:List α},l.Pairwise (fun a b=>HT.lexLt (key b) (key a)=false)->(insB key x l).Pairwise (fun a b=>HT.lexLt (key b) (key a)=false)
 | [],_=>List.pairwise_singleton _ _
 | y::r,h=>by
  obtain⟨h1,h2⟩:=List.pairwise_cons.mp h;unfold insB;split
  next c=>
   refine List.pairwise_cons.mpr ⟨fun z hz=>?_,h⟩;rcases List.mem_cons.mp hz with e | m
   ·subst e;cases q:HT.lexLt (key z) (key x)with
    | false=>rfl
    | true=>rw[<-wo (key x),x3 c q]
   ·cases q:HT.lexLt (key z) (key x)with
    | false=>rfl
    | true=>rw[<-h1 z m,x3 q c]
  next c=>
   refine List.pairwise_cons.mpr ⟨fun z hz=>?_,uA h2⟩;rcases List.mem_cons.mp (insB_perm.mem_iff.mp hz)with e | m
   ·subst e;simpa using c
   ·exact h1 z m
theorem yN{α:Type}{key:α->List Int}:∀(l:List α),(wG key l).Pairwise (fun a b=>HT.lexLt (key b) (key a)=false)
 | []=>List.Pairwise.nil
 | x::r=>uA (yN r)
open PySem.W (KasT kas_sort kas_ask kat_run kat_snds kat_kind kat_lt KatTups KatLex kat_nil kat_cons kat_go kat_yes kat_no kat_one kat_lt_int)
section
variable{prog:Program}{w:World}{A:Around}{E:Value->Shared->Prop}{s:Shared}
theorem z3h{x:Value}{vs:List Value}{Q:Value->Shared->Prop}{f:Nat->Int}{κ:SortKind}(h64:vs.length<64)
  (hcol:∀(Q':List Value->Shared->Prop),(∀h' tk,(∀b o,s.heap.get? b=some o->h'.get? b=some o)->Q' vs { s with heap:=h',toks:=tk })->wpAny (model prog w) A.in1 (collect x) Q' E s)
  (kind:∀(s':Shared) (Q:SortKind->Shared->Prop) (E:Value->Shared->Prop),2<=vs.length->(∀b o,s.heap.get? b=some o->s'.heap.get? b=some o)->Q κ s'->wpAny (model prog w) A.in1.in1 (keyKind' vs.toArray) Q E s')
  (cmp:∀(i j:Nat) (s':Shared) (Q:Bool->Shared->Prop) (E:Value->Shared->Prop),i<vs.length->j<vs.length->(∀b o,s.heap.get? b=some o->s'.heap.get? b=some o)->Q (decide (f i<f j)) s'->wpAny (model prog w) A.in1.in1 (keyLt' κ (vs.getD i Value.none) (vs.getD j Value.none)) Q E s')
  (h:∀(p:Array Nat) (h' hf:Heap) (e tk:Nat),p.Perm (List.toArray (List.range vs.length))->My.Up f p vs.length->(∀b o,s.heap.get? b=some o->h'.get? b=some o)->(∀b o,h'.get? b=some o->hf.get? b=some o)->hf.get? h'.objs.size=some (seqObj "list" (z1j vs p) e)->Q (.ref h'.objs.size) { s with heap:=hf,toks:=tk }) :
  wpAny (model prog w) A (call (.builtin "sorted") [x]) Q E s:=by
 refine Calls.call_function_entry kind_sorted plain_sorted entry_sorted (args_sorted1 _) ?_;unfold Builtin.«sorted»;refine wpAny_bind (m:=checkCount "sorted" 1 1 _) (wpAny_pure ?_);refine wpAny_bind (hcol _ fun h' tk kp0=>?_);refine wpAny_bind (wpAny_newList ?_ (by rw[sizeLine_eq];omega));have hoL:(h'.push (seqObj "list" vs.toArray 0)).get? h'.objs.size=some (seqObj "list" vs.toArray 0):=Heap.get?_push_size _ rfl;have kp:∀b o,s.heap.get? b=some o->(h'.push (seqObj "list" vs.toArray 0)).get? b=some o:=fun b o e=>Heap.get?_push_of_some _ (kp0 b o e);have ne:∀b o,s.heap.get? b=some o->b≠h'.objs.size:=fun b o e=>Nat.ne_of_lt (Heap.lt_size (kp0 b o e));show wpAny _ _ _ _ _ { s with heap:=h'.push (seqObj "list" vs.toArray 0),toks:=tk };refine wpAny_bind (wpAny_holding (wpAny_call_entry slot_list_sort ⟨_,hoL,rfl⟩ entry_list_sort (z8j (f:=f) (κ:=κ) hoL h64 (fun s' Q' E' h2 k' hq=>kind s' Q' E' h2 (fun b o e=>k' b o (ne b o e) (kp b o e)) hq)
  (fun i j s' Q' E' hi hj k' hq=>cmp i j s' Q' E' hi hj (fun b o e=>k' b o (ne b o e) (kp b o e)) hq) fun p hp hup=>⟨_,rfl,?_⟩) (args_list_sort _)))
 obtain⟨e,he⟩:=sortedHeap_at (h:=h'.push (seqObj "list" vs.toArray 0)) (out:=z1j vs p) hoL;refine wpAny_pure ⟨_,rfl,h p h' _ e tk hp hup kp0 (fun b o eb=>?_) he⟩;rw[sortedHeap_old (Nat.ne_of_lt (Heap.lt_size eb)) (by rw[size_push'];exact Nat.lt_succ_of_lt (Heap.lt_size eb))];exact Heap.get?_push_of_some _ eb
theorem uN{fin:Bool}{Q:Bool->Shared->Prop}:∀{ns ms:List Int} {us ws:List Value} {i:Nat},Vals (ns.map V.int) us->Vals (ms.map V.int) ws->(fin=decide (i+ns.length<i+ms.length))->Q (HT.lexLt ns ms) s->KatLex prog w A true fin Q (us.zip ws) i s
 | [],[],_,_,i,.nil,.nil,hf,q=>kat_nil (by rw[hf,show decide (i+([]:List Int).length<i+([]:List Int).length)=false from decide_eq_false (by simp)];exact q)
 | [],_::_,_,_,i,.nil,.cons _ _,hf,q=>kat_nil (by rw[hf,decide_eq_true (by simp)];exact q)
 | _::_,[],_,_,i,.cons _ _,.nil,hf,q=>kat_nil (by rw[hf,show decide (i+(_::_:List Int).length<i+([]:List Int).length)=false from decide_eq_false (by simp)];exact q)
 | n::ns,m::ms,_,_,i,.cons ⟨t,e1⟩ r1,.cons ⟨t2,e2⟩ r2,hf,q=>by
  subst e1 e2;refine kat_cons (wpAny_eqBool_int (kat_go (fun he=>kat_yes ?_) fun he=>kat_no ?_))
  ·have he':n=m:=by simpa using he
   subst he';refine uN (i:=i+1) r1 r2 (by rw[hf];exact decide_eq_decide.mpr (by simp only[List.length_cons];omega)) ?_
   rwa [HT.lexLt_cons,if_pos rfl]at q
  ·have he':n≠m:=by simpa using he
   rw[HT.lexLt_cons,if_neg he']at q;cases hi:(true && i == 0)with
   | true=>
    have z:=kat_lt_int (prog:=prog) (w:=w) (A:=A) (E:=fun _ _=>False) (s:=s) (x:=n) (y:=m) (t:=t) (u:=t2) (Q:=Q) q;rw[keyLt'_oneType]at z;exact z
   | false=>exact kat_one _ _ (PyProof.Rows.lt_int q)
end
noncomputable def keyI:PyData->List Int
 | .int i=>[i]
 | .tuple ds=>(zh ds).getD []
 | _=>[]
noncomputable def isInt:PyData->Bool
 | .int _=>true
 | _=>false
noncomputable def xp:PyData->Bool
 | .tuple ds=>(zh ds).isSome && !ds.isEmpty
 | _=>false
noncomputable def zk(ds:List PyData):Bool:=(ds.all isInt || ds.all xp) && decide (ds.length<64)
noncomputable def x6:List PyData->Option PyData
 | [.list ds]=>if zk ds=true then some (.list (wG keyI ds))else none
 | [.tuple ds]=>if zk ds=true then some (.list (wG keyI ds))else none
 | _=>none
theorem z56{ds:List PyData}(h:zk ds=true):∀a∈ds,∀b∈ds,keyI a=keyI b->a=b:=by
 unfold zk at h;rw[Bool.and_eq_true,Bool.or_eq_true,List.all_eq_true,List.all_eq_true]at h;intro a ha b hb e;rcases h.1 with h1 | h1
 ·have a1:=h1 a ha;have b1:=h1 b hb;cases a<;>simp only[isInt]at a1<;>try cases a1
  cases b<;>simp only[isInt]at b1<;>try cases b1
  simp only[keyI]at e;cases e;rfl
 ·have a1:=h1 a ha;have b1:=h1 b hb;cases a<;>simp only[xp]at a1<;>try cases a1
  cases b<;>simp only[xp]at b1<;>try cases b1
  rename_i xs ys
  rw[Bool.and_eq_true]at a1 b1;obtain⟨ns,e1⟩:=Option.isSome_iff_exists.mp a1.1;obtain⟨ms,e2⟩:=Option.isSome_iff_exists.mp b1.1;simp only[keyI,e1,e2,Option.getD_some]at e;rw[y9 e1,y9 e2,e]
theorem z1h{f:Nat->Int}{p:Array Nat}{n:Nat}(hs:p.size=n)(h:My.Up f p n):p.toList.Pairwise fun i j=>f i<=f j:=by
 rw[List.pairwise_iff_getElem];intro i j hi hj hij
 have:=h.le (Nat.le_of_lt hij) (by rw[<-hs];simpa using hj);have hi':i<p.size:=by simpa using hi
 have hj':j<p.size:=by simpa using hj
 simpa[My.at_,hi',hj']using this
theorem z3P{S:Addr->Prop}{H:Hp}{ds:List PyData}{xs:List V}{its:List Value}(hd:DatsS S H ds xs)(rv:Vals xs its)(hs:zk ds=true){p:Array Nat}(hp:p.Perm (List.toArray (List.range its.length)))(hup:My.Up (rank (fun i=>keyI (ds.getD i .none)) ds.length) p its.length):
  ∃ys,Vals ys (p.toList.map fun i=>its.getD i Value.none)/\DatsS S H (wG keyI ds) ys/\ys.length=ds.length:=by
 have l1:=hd.length;have l2:=rv.length;have hpl:p.toList.Perm (List.range ds.length):=by
  have:=hp.toList;rw[<-l2,<-l1]at this;simpa using this
 have hmem:∀i∈p.toList,i<ds.length:=fun i hi=>List.mem_range.mp (hpl.mem_iff.mp hi);have hn:p.toList.length=ds.length:=by rw[hpl.length_eq,List.length_range]
 have gen:∀l:List Nat,(∀i∈l,i<ds.length)->Vals (l.map fun i=>xs.getD i .non) (l.map fun i=>its.getD i Value.none)/\DatsS S H (l.map fun i=>ds.getD i .none) (l.map fun i=>xs.getD i .non):=fun l=>by
  induction l with
  | nil=>intro _;exact⟨.nil,.nil⟩
  | cons i l ih=>
   intro hl;obtain⟨g1,g2⟩:=ih fun j hj=>hl j (List.mem_cons_of_mem _ hj);have hi:=hl i List.mem_cons_self;obtain⟨v,e1,r1⟩:=hd.get (List.getElem?_eq_getElem hi);obtain⟨u,e2,r2⟩:=rv.get e1;have a1:ds.getD i .none=ds[i]:=by rw[List.getD_eq_getElem?_getD,List.getElem?_eq_getElem hi];rfl
   have a2:xs.getD i .non=v:=by rw[List.getD_eq_getElem?_getD,e1];rfl
   have a3:its.getD i Value.none=u:=by rw[List.getD_eq_getElem?_getD,e2];rfl
   refine⟨.cons (by show RelV (xs.getD i .non) (its.getD i Value.none);rw[a2,a3];exact r2) g1,.cons (by show DatS S H (ds.getD i .none) (xs.getD i .non);rw[a1,a2];exact r1) g2⟩
 obtain⟨g1,g2⟩:=gen p.toList hmem;have e2:(List.range ds.length).map (fun i=>ds.getD i .none)=ds:=by
  refine List.ext_getElem (by simp) fun i a b=>?_;simp[List.getD_eq_getElem?_getD,b]
 have perm:(p.toList.map fun i=>ds.getD i .none).Perm ds:=by
  have:=hpl.map fun i=>ds.getD i .none
  rwa [e2]at this
 have pw:(p.toList.map fun i=>ds.getD i .none).Pairwise fun a b=>HT.lexLt (keyI b) (keyI a)=false:=by
  rw[List.pairwise_map];refine(z1h (n:=its.length) (by simpa[<-l2,<-l1]using hn) hup).imp_of_mem fun{i j} hi hj hle=>?_;rw[<-z1n (n:=ds.length) (k:=fun i=>keyI (ds.getD i .none)) (hmem j hj)];exact decide_eq_false (by omega)
 have e3:=xN (perm.trans (xD ds).symm) pw (yN ds) fun a ha b hb=>z56 hs a (perm.mem_iff.mp ha) b (perm.mem_iff.mp hb);refine⟨_,g1,by rw[<-e3];exact g2,by rw[List.length_map,hn]⟩
variable{X:Cx}
theorem yi{S:Addr->Prop}{H:Hp}:∀{ds:List PyData} {ns:List Int} {ys:List V},zh ds=some ns->DatsS S H ds ys->ys=ns.map V.int:=fun{ds ns ys} e h=>by
 rw[y9 e]at h;clear e
 induction ns generalizing ys with
 | nil=>simpa only[List.map_nil,DatsS]using h
 | cons n ns ih=>
  simp only[List.map_cons,DatsS]at h;obtain⟨x,r,rfl,h1,h2⟩:=h;simp only[DatS]at h1;rw[h1,ih h2];rfl
theorem xX{pins:List (Addr×Obj)}{s:Shared}{σ:L2.St}{H:Hp}{Q:VK}{S:Addr->Prop}{x:Value}{ds:List PyData}{xs:List V}{its:List Value}(I:L2.Inv X pins σ H s)(hS:∀a,S a->H a≠none)(hd:DatsS S H ds xs)(rv:Vals xs its)(hs:zk ds=true)
  (hcol:∀(Q':List Value->Shared->Prop),(∀h' tk,(∀b o,s.heap.get? b=some o->h'.get? b=some o)->Q' its { s with heap:=h',toks:=tk })->wpAny (model X.prog X.w) X.A.in1 (collect x) Q' X.xe s)
  (q:∀v H',Same H H'->DatS S H' (.list (wG keyI ds)) v->Q v H'):wpAny (model X.prog X.w) X.A (call (.builtin "sorted") [x]) (EP X pins σ Q) X.xe s:=by
 have l1:=hd.length;have l2:=rv.length;have hs':=hs;unfold zk at hs';rw[Bool.and_eq_true,Bool.or_eq_true,List.all_eq_true,List.all_eq_true]at hs';have h64:its.length<64:=by
  have:=of_decide_eq_true hs'.2;omega
 have fin:∀(p:Array Nat) (h' hf:Heap) (e tk:Nat),p.Perm (List.toArray (List.range its.length))->My.Up (rank (fun i=>keyI (ds.getD i .none)) ds.length) p its.length->(∀b o,s.heap.get? b=some o->h'.get? b=some o)->(∀b o,h'.get? b=some o->hf.get? b=some o)->hf.get? h'.objs.size=some (seqObj "list" (z1j its p) e)->EP X pins σ Q (.ref h'.objs.size) { s with heap:=hf,toks:=tk }:=fun p h' hf e tk hp hup k1 k2 ho=>by
  obtain⟨ys,rv',dv,hl⟩:=z3P hd rv hs hp hup;have I1:=I.kept (t':=tk) k1;refine⟨.ref h'.objs.size,_,I1.laid (t':=tk) (a:=h'.objs.size) (o:=.lst ys) (h':=hf) k2 (Nat.le_refl _) ⟨by rw[hl,sizeLine_eq];omega,_,e,rv',ho⟩,rfl,q _ _ (Same.new (I1.hok.fresh (Nat.le_refl _))) (z0W hS (I1.hok.fresh (Nat.le_refl _)) dv)⟩
 have at1:∀i,i<its.length->∃d v u,ds[i]?=some d/\ds.getD i .none=d/\d∈ds/\DatS S H d v/\RelV v u/\its.getD i Value.none=u:=fun i hi=>by
  have hi':i<ds.length:=by omega
  obtain⟨v,e1,r1⟩:=hd.get (List.getElem?_eq_getElem hi');obtain⟨u,e2,r2⟩:=rv.get e1;exact⟨ds[i],v,u,List.getElem?_eq_getElem hi',by rw[List.getD_eq_getElem?_getD,List.getElem?_eq_getElem hi'];rfl,List.getElem_mem hi',r1,r2,by rw[List.getD_eq_getElem?_getD,e2];rfl⟩
 rcases hs'.1 with h1 | h1
 ·have getv:∀i,i<its.length->∃n t,its.getD i Value.none=.int n t/\keyI (ds.getD i .none)=[n]:=fun i hi=>by
   obtain⟨d,v,u,e0,e1,hm,r1,r2,e2⟩:=at1 i hi;have a1:=h1 d hm;cases d<;>simp only[isInt]at a1<;>try cases a1
   simp only[DatS]at r1;subst r1;obtain⟨t,rfl⟩:=r2;exact⟨_,t,e2,by rw[e1];rfl⟩
  refine z3h (κ:=oneType') (f:=rank (fun i=>keyI (ds.getD i .none)) ds.length) h64 hcol (fun s' Q' E' h2 kp hq'=>?_) (fun i j s' Q' E' hi hj kp hq'=>?_) fin
  ·refine W.kas_kind (T:=.type "int") h2 (fun v hv=>?_) rfl rfl hq';obtain⟨i,hi,rfl⟩:=List.mem_iff_getElem.mp hv;obtain⟨n,t,e,_⟩:=getv i hi;rw[List.getD_eq_getElem?_getD,List.getElem?_eq_getElem hi]at e;have e':its[i]=.int n t:=e;rw[e'];exact W.Looks.of_pure rfl
  ·obtain⟨n,t,e1,k1⟩:=getv i hi;obtain⟨m,t2,e2,k2⟩:=getv j hj;rw[e1,e2];refine kat_lt_int ?_;rw[z1n (by omega)]at hq'
   have:HT.lexLt (keyI (ds.getD i .none)) (keyI (ds.getD j .none))=decide (n<m):=by
    rw[k1,k2,HT.lexLt_cons];split
    next he=>subst he;simp[HT.lexLt]
    next=>rfl
   rwa [this]at hq'
 ·have item:∀i,i<its.length->∃a ns us,its.getD i Value.none=.ref a/\keyI (ds.getD i .none)=ns/\ns≠[]/\Vals (ns.map V.int) us/\IsTup s.heap a us.toArray:=fun i hi=>by
   obtain⟨d,v,u,e0,e1,hm,r1,r2,e2⟩:=at1 i hi;have a1:=h1 d hm;cases d<;>simp only[xp]at a1<;>try cases a1
   rename_i ts
   rw[Bool.and_eq_true]at a1;obtain⟨ns,en⟩:=Option.isSome_iff_exists.mp a1.1;simp only[DatS]at r1;obtain⟨a,ys,rfl,hA,dy⟩:=r1;cases r2;have ey:=yi en dy;subst ey;obtain⟨us,rus,tp,_⟩:=I.tuple (SqT.of hA);refine⟨a,ns,us,e2,by rw[e1];simp only[keyI,en,Option.getD_some],fun z=>?_,rus,tp⟩
   have:=y9 en;rw[z]at this;rw[this]at a1;simp at a1
  have up:∀{s':Shared} {c:Addr} {xs:Array Value},(∀b o,s.heap.get? b=some o->s'.heap.get? b=some o)->IsTup s.heap c xs->IsTup s'.heap c xs:=fun{s' c xs} kp t=>by
   obtain⟨o,e,r⟩:=t;exact⟨o,kp _ _ e,r⟩
  refine z3h (κ:=tuples' true) (f:=rank (fun i=>keyI (ds.getD i .none)) ds.length) h64 hcol (fun s' Q' E' h2 kp hq'=>?_) (fun i j s' Q' E' hi hj kp hq'=>?_) fin
  ·have tups:∀(l:List Nat),(∀i∈l,i<its.length)->∃fs:List Value,KatTups s'.heap (l.map fun i=>its.getD i Value.none) fs/\fs.length=l.length/\∀v∈fs,∃n t,v=.int n t:=fun l=>by
    induction l with
    | nil=>intro _;exact⟨[],trivial,rfl,fun v hv=>nomatch hv⟩
    | cons i l ih=>
     intro hl';obtain⟨fs,k1,k2,k3⟩:=ih fun j hj=>hl' j (List.mem_cons_of_mem _ hj);have hi:=hl' i List.mem_cons_self;obtain⟨a,ns,us,e1,ek,nn,rus,tp⟩:=item i hi;obtain⟨o,b1,b2,n,b3⟩:=up kp tp;cases ns with
     | nil=>exact absurd rfl nn
     | cons m ms=>
      cases rus with
      | cons ru1 ru2=>
       obtain⟨t,rfl⟩:=ru1;refine⟨.int m t::fs,?_,by simp[k2],fun v hv=>?_⟩
       ·rw[List.map_cons,e1];exact KatTups.cons b1 b2 b3 rfl k1
       ·rcases List.mem_cons.mp hv with rfl | hv
        ·exact⟨_,_,rfl⟩
        ·exact k3 v hv
   obtain⟨fs,k1,k2,k3⟩:=tups (List.range its.length) fun i hi=>List.mem_range.mp hi;have e:(List.range its.length).map (fun i=>its.getD i Value.none)=its:=by
    refine List.ext_getElem (by simp) fun i a b=>?_;simp[List.getD_eq_getElem?_getD,b]
   rw[e]at k1;rw[List.length_range]at k2;refine kat_kind (T:=.type "int") k1 (by omega) (fun v hv=>?_) rfl hq';obtain⟨n,t,rfl⟩:=k3 v hv;exact W.Looks.of_pure rfl
  ·obtain⟨a,ns,us,e1,ek1,nn1,rus1,tp1⟩:=item i hi;obtain⟨b,ms,ws,e2,ek2,nn2,rus2,tp2⟩:=item j hj;obtain⟨o,a1,a2,n,a3⟩:=up kp tp1;obtain⟨o',b1,b2,n',b3⟩:=up kp tp2;rw[e1,e2];refine kat_lt a1 a3 b1 b3 ?_;rw[z1n (by omega),ek1,ek2]at hq';have g1:=rus1.length;have g2:=rus2.length;rw[List.length_map]at g1 g2;exact uN (i:=0) rus1 rus2 (decide_eq_decide.mpr (by simp[g1,g2])) hq'
theorem z3n(hu:X.A.units+64<cLine):CallR X (.builtin "sorted") (rDn x6):=by
 intro pins s σ H xs us Q I r h;obtain⟨S,ds,rr,hS,h1,hf,q⟩:=h
 match ds,hf,h1 with
 | [.list xs],hf,h1=>
  simp only[x6]at hf;split at hf
  next hs=>
   cases hf;obtain⟨v,rfl,r1⟩:=all1 h1;obtain⟨a,ys,rfl,g1,k1⟩:=yI r1;obtain⟨u,rfl,ru⟩:=yq r;cases ru;obtain⟨its,rv,pl,hz⟩:=I.list (SqL.of g1);refine xX I hS k1 rv hs (fun Q' hq'=>?_) q;obtain⟨o,e1,e2,n,e3⟩:=pl.isList;exact wpAny_collect_seq a (.inl rfl) e1 e2 e3 (fun h' k=>hq' h' s.toks k) (by simpa[<-rv.length]using hz)
  next=>cases hf
 | [.tuple xs],hf,h1=>
  simp only[x6]at hf;split at hf
  next hs=>
   cases hf;obtain⟨v,rfl,r1⟩:=all1 h1;obtain⟨a,ys,rfl,g1,k1⟩:=yF r1;obtain⟨u,rfl,ru⟩:=yq r;cases ru;obtain⟨its,rv,pl,hz⟩:=I.tuple (SqT.of g1);refine xX I hS k1 rv hs (fun Q' hq'=>?_) q;obtain⟨o,e1,e2,n,e3⟩:=pl;exact wpAny_collect_seq a (.inr rfl) e1 e2 e3 (fun h' k=>hq' h' s.toks k) (by simpa[<-rv.length]using hz)
  next=>cases hf
end L2
namespace L2
open PySem PySem.Spec PyProof.Rows
variable{X:Cx}
noncomputable def z0u:List PyData->Option PyData
 | [.list ds]=>(zh ds).bind fun ns=>ns.max?.map PyData.int
 | _=>none
theorem z36(hc:X.calm=true):CallR X (.builtin "max") (fun xs H Q=>∃(p:Addr) (ns:List Int),xs=[.ref p]/\SqL X.K H p (ns.map V.int)/\0<ns.length/\∀M,M∈ns->(∀a∈ns,a<=M)->Q (.int M) H):=by
 intro pins s σ H xs us Q I r h;obtain⟨p,ns,rfl,hq,hn,q⟩:=h;obtain⟨u,rfl,ru⟩:=yq r;cases ru;obtain⟨its,rv,pl,hz⟩:=I.list hq;have hi:IntsAre its ns:=L2.intsAre_of rv;obtain⟨xs,e⟩:=hi.allInts.items;have hns:ns=xs.toList.map (·.1):=by rw[<-hi.numsOf,<-nums_intItems,<-e]
 have hsz:0<xs.size:=by rw[hns,List.length_map,Array.length_toList]at hn;exact hn
 have hl:=pl.isList;rw[e]at hl;refine max_intList (I.ok.hd hc) hl hsz fun v h' tk hv hk=>?_;obtain⟨t,rfl⟩:=intItems_at hv;obtain⟨h1,h2⟩:=argBest_gt (numAt xs) (xs.size - 1);refine⟨.int _,H,I.kept (t':=tk) hk,⟨t,rfl⟩,q _ ?_ fun a ha=>?_⟩
 ·rw[hns,numAt_eq];exact getD_mem (by rw[List.length_map,Array.length_toList];omega)
 ·rw[hns]at ha;obtain⟨j,hj,rfl⟩:=mem_getD ha;rw[List.length_map,Array.length_toList]at hj;rw[<-numAt_eq];exact h2 j (by omega)
theorem z1p(hc:X.calm=true):CallR X (.builtin "max") (rDn z0u):=(z36 hc).imp fun vs H Q ⟨S,ds,r,hS,h1,hf,q⟩=>by
 match ds,hf,h1 with
 | [.list xs],hf,h1=>
  obtain⟨v,rfl,r1⟩:=all1 h1;obtain⟨a,ys,rfl,g1,k1⟩:=yI r1;simp only[z0u]at hf;cases e:zh xs with
  | none=>rw[e]at hf;cases hf
  | some ns=>
   rw[e,Option.bind_some]at hf;cases em:ns.max? with
   | none=>rw[em]at hf;cases hf
   | some M=>
    rw[em]at hf;cases hf;have ey:=yi e k1;subst ey;obtain⟨m1,m2⟩:=List.max?_eq_some_iff.mp em;refine⟨a,ns,rfl,SqL.of g1,List.length_pos_of_mem m1,fun M' h3 h4=>?_⟩
    have:M'=M:=Int.le_antisymm (m2 M' h3) (h4 M m1);subst this;exact q _ _ (Same.refl _) di
end L2
namespace L2
open PySem PySem.Spec PyProof.Rows
theorem z00(a v:Value):argsOk "min" ⟨[a],[("default",v)]⟩:=by unfold argsOk;kernel_rfl
section
variable{prog:Program}{w:World}{A:Around}{R:Result->Shared->Prop}
theorem z1u{d:Value}(hh:A.in1.handled=none){l I S:Addr}{vs:List Value}{g:Heap}{bt:Nat->Nat->Bool}(hlI:l≠I)(hlS:l≠S)(hSI:S≠I)(hl:g.IsList l vs.toArray)
  (cmp:∀i j vi vj (s:Shared) (Q:Value->Shared->Prop) (E:Value->Shared->Prop),vs[i]?=some vi->vs[j]?=some vj->(∀b o,b≠I->b≠S->g.get? b=some o->s.heap.get? b=some o)->Q (.bool (bt i j)) s->wpAny (model prog w) A.in1 (richCompare .Lt vi vj) Q E s) :
  ∀(k j:Nat) (s:Shared) (vb:Value) (c:Nat),vs.length - (j+1)=k->j+1<=vs.length->s.heap.IsListIter I l (j+1)->(∀b o,b≠I->b≠S->g.get? b=some o->s.heap.get? b=some o)->vs[argBest bt j]?=some vb->
  s.heap.get? S=some { cls:=.type "list",dict:=none,data:=.seq #[vb,vb] c,slots:=#[] }->
  (∀v h' tk,vs[argBest bt (vs.length - 1)]?=some v->(∀b o,b≠I->b≠S->g.get? b=some o->h'.get? b=some o)->R (.ok (.ret v)) { s with heap:=h',toks:=tk })->
  codeAny (model prog w) A (.builtin "min.loop" ⟨[.ref I,.none,.ref S],[("default",d)]⟩) R s:=by
 have hname:(toString "min"++toString ".loop":String)="min.loop":=by decide
 have lis:∀{h:Heap},(∀b o,b≠I->b≠S->g.get? b=some o->h.get? b=some o)->h.IsList l vs.toArray:=fun{h} k=>by
  obtain⟨o,e,r⟩:=hl;exact⟨o,k l o hlI hlS e,r⟩
 intro k
 induction k with
 | zero=>
  intro j s vb c hk hj hit kp hv hS hR;have hin:j+1=vs.length:=by omega
  refine codeAny_builtin F.entry_min_loop ?_;rw[Around.under_plainId F.plain_min_loop _];show wpAny _ A.in1 (seqItems? (.ref S) >>= _) _ _ s;refine wpAny_bind (wpAny_seqItems hS rfl ?_);show wpAny _ A.in1 (tryCatch (pyNext (.ref I)) _ >>= _) _ _ s;refine wpAny_bind (wpAny_tryCatch (wpAny_pyNext_list_end hh hit (lis kp) (by simp;omega) fun h' eb=>?_));have hS':=eb S _ hSI hS;show wpAny _ A.in1 (updateSeq S (fun _=>#[]) >>= _) _ _ _;refine wpAny_bind ?_;refine wpAny_updateSeq hS' rfl (wpAny_bind (wpAny_letGo (wpAny_pure ?_)));exact hR vb _ s.toks (by rw[<-hin];exact hv) fun b o hI hS2 e=>(Heap.get?_update_other _ _ (Ne.symm hS2)).trans (eb b o hI (kp b o hI hS2 e))
 | succ k ih=>
  intro j s vb c hk hj hit kp hv hS hR;have hlt:j+1<vs.length:=by omega
  refine codeAny_builtin F.entry_min_loop ?_;rw[Around.under_plainId F.plain_min_loop _];show wpAny _ A.in1 (seqItems? (.ref S) >>= _) _ _ s;refine wpAny_bind (wpAny_seqItems hS rfl ?_);show wpAny _ A.in1 (tryCatch (pyNext (.ref I)) _ >>= _) _ _ s;refine wpAny_bind (wpAny_tryCatch (wpAny_pyNext_list_item (x:=vs[j+1]) hit (lis kp) (by simp[hlt]) fun h' hit' sb=>?_));have hS':h'.get? S=_:=(sb.2 S hSI).trans hS;have kp':∀b o,b≠I->b≠S->g.get? b=some o->h'.get? b=some o:=fun b o hI hS2 e=>(sb.2 b hI).trans (kp b o hI hS2 e);show wpAny _ A.in1 (tryCatch (holding [vs[j+1],vs[j+1]] (richCompare .Lt vs[j+1] vb >>= _)) _ >>= _) _ _ _;refine wpAny_bind (wpAny_tryCatch (wpAny_holding (wpAny_bind (cmp (j+1) (argBest bt j) _ vb _ _ _ (List.getElem?_eq_getElem hlt) hv kp' ?_))));refine wpAny_bind (wpAny_holding (wpAny_truthy_bool ?_));refine wpAny_bind (wpAny_letGo (wpAny_pure ?_));cases hb:bt (j+1) (argBest bt j)with
  | true=>
   simp only[if_true];refine wpAny_bind ?_;refine wpAny_updateSeq hS' rfl (wpAny_bind (wpAny_letGo ?_));rw[hname];have kp2:∀b o,b≠I->b≠S->g.get? b=some o->(h'.update S (Obj.mapSeq fun _=>#[vs[j+1],vs[j+1]])).get? b=some o:=fun b o hI hS2 e=>(Heap.get?_update_other _ _ (Ne.symm hS2)).trans (kp' b o hI hS2 e);refine wpAny_pure ⟨plainId_quiet F.plain_min_loop _,ih (j+1) _ vs[j+1] _ (by omega) hlt ?_ kp2 (by simp only[argBest,hb,if_true];exact List.getElem?_eq_getElem hlt) (Heap.get?_update_self _ hS' rfl) fun v h2 tk hv2 k2=>hR v h2 tk hv2 k2⟩;obtain⟨oi,e1,e2⟩:=hit';exact⟨oi,(Heap.get?_update_other _ _ hSI).trans e1,e2⟩
  | false=>
   simp only[Bool.false_eq_true,if_false];refine wpAny_bind (wpAny_letGo ?_);rw[hname];exact wpAny_pure ⟨plainId_quiet F.plain_min_loop _,ih (j+1) _ vb c (by omega) hlt hit' kp' (by simp only[argBest,hb,Bool.false_eq_true,if_false];exact hv) hS' fun v h2 tk hv2 k2=>hR v h2 tk hv2 k2⟩
theorem z0n{E:Value->Shared->Prop}{s:Shared}{Q:Value->Shared->Prop}{d:Value}(hh:A.in1.handled=none){l:Addr}{vs:List Value}{bt:Nat->Nat->Bool}(hl:s.heap.IsList l vs.toArray)(hn:0<vs.length)
  (cmp:∀i j vi vj (s':Shared) (Q:Value->Shared->Prop) (E:Value->Shared->Prop),vs[i]?=some vi->vs[j]?=some vj->(∀b o,s.heap.get? b=some o->s'.heap.get? b=some o)->Q (.bool (bt i j)) s'->wpAny (model prog w) A.in1 (richCompare .Lt vi vj) Q E s')
  (h:∀v h' tk,vs[argBest bt (vs.length - 1)]?=some v->(∀b o,s.heap.get? b=some o->h'.get? b=some o)->Q v { s with heap:=h',toks:=tk }) :
  wpAny (model prog w) A (call (.builtin "min") [.ref l] [("default",d)]) Q E s:=by
 have hname:(toString "min"++toString ".loop":String)="min.loop":=by decide
 have hlt:l<s.heap.objs.size:=by obtain⟨o,e,_⟩:=hl;exact Heap.lt_size e
 refine kmk_tree F.kind_min F.plain_min F.entry_min (z00 _ _) ?_;show wpAny _ A.in1 (Builtin.Builtins.bindParams "min" ["key","default"] 0 ⟨[],[("default",d)]⟩ >>= _) _ _ s;refine wpAny_bind (wpAny_of_eq (show Builtin.Builtins.bindParams "min" ["key","default"] 0 ⟨[],[("default",d)]⟩=pure [none,some d] from rfl) ?_);refine wpAny_bind (wpAny_pure ?_);refine wpAny_bind (wpAny_pyIter_list hl ?_);refine wpAny_bind (wpAny_newObj_type ?_);rw[hname];generalize hg1:s.heap.push { cls:=.type "list_iterator",data:=.fields #[.ref l,.int 0 0] }=g1;have z1:g1.objs.size=s.heap.objs.size+1:=by rw[<-hg1,Heap.size_push]
 have k1:∀b o,s.heap.get? b=some o->g1.get? b=some o:=fun b o e=>by rw[<-hg1];exact Heap.get?_push_of_some _ e
 have hit:g1.IsListIter s.heap.objs.size l 0:=⟨_,by rw[<-hg1];exact Heap.get?_push_size _ rfl,rfl,rfl⟩;have ne:∀b o,s.heap.get? b=some o->b≠s.heap.objs.size/\b≠g1.objs.size:=fun b o e=>by
  have:=Heap.lt_size e;exact⟨Nat.ne_of_lt this,Nat.ne_of_lt (by rw[z1];exact Nat.lt_succ_of_lt this)⟩
 have hl1:g1.IsList l vs.toArray:=by obtain⟨o,e,r⟩:=hl;exact⟨o,k1 _ _ e,r⟩
 refine wpAny_pure ⟨plainId_quiet F.plain_min_loop _,?_⟩;refine codeAny_builtin F.entry_min_loop ?_;rw[Around.under_plainId F.plain_min_loop _];show wpAny _ A.in1 (seqItems? (.ref g1.objs.size) >>= _) _ _ _;have hS0:(g1.push { cls:=.type "list",data:=.seq #[] }).get? g1.objs.size=some { cls:=.type "list",data:=.seq #[] }:=Heap.get?_push_size _ rfl;refine wpAny_bind (wpAny_seqItems hS0 rfl ?_);show wpAny _ A.in1 (tryCatch (pyNext (.ref s.heap.objs.size)) _ >>= _) _ _ _;have hitP:(g1.push { cls:=.type "list",data:=.seq #[] }).IsListIter s.heap.objs.size l 0:=by obtain⟨o,e,r⟩:=hit;exact⟨o,Heap.get?_push_of_some _ e,r⟩
 have hlP:(g1.push { cls:=.type "list",data:=.seq #[] }).IsList l vs.toArray:=by obtain⟨o,e,r⟩:=hl1;exact⟨o,Heap.get?_push_of_some _ e,r⟩
 have hSI:g1.objs.size≠s.heap.objs.size:=by rw[z1];omega
 refine wpAny_bind (wpAny_tryCatch (wpAny_pyNext_list_item (x:=vs[0]) hitP hlP (by simp[hn]) fun h' hit' sb=>?_));have hS':h'.get? g1.objs.size=_:=(sb.2 _ hSI).trans hS0;show wpAny _ A.in1 (updateSeq g1.objs.size (fun _=>#[vs[0],vs[0]]) >>= _) _ _ _;refine wpAny_bind ?_;refine wpAny_updateSeq hS' rfl ?_;rw[hname];have kp:∀b o,b≠s.heap.objs.size->b≠g1.objs.size->s.heap.get? b=some o->(h'.update g1.objs.size (Obj.mapSeq fun _=>#[vs[0],vs[0]])).get? b=some o:=fun b o hI hS2 e=>
  (Heap.get?_update_other _ _ (Ne.symm hS2)).trans ((sb.2 b hI).trans (Heap.get?_push_of_some _ (k1 b o e)))
 refine wpAny_pure ⟨plainId_quiet F.plain_min_loop _,z1u (g:=s.heap) (bt:=bt) (vs:=vs) hh (Nat.ne_of_lt hlt) (Nat.ne_of_lt (by rw[z1];exact Nat.lt_succ_of_lt hlt)) hSI hl (fun i j vi vj s' Q' E' e1 e2 k' hq=>cmp i j vi vj s' Q' E' e1 e2 (fun b o e=>k' b o (ne b o e).1 (ne b o e).2 e) hq)
  _ 0 _ vs[0] _ rfl hn ?_ kp (List.getElem?_eq_getElem hn) (Heap.get?_update_self _ hS' rfl) fun v h2 tk hv k2=>h v h2 tk hv fun b o e=>k2 b o (ne b o e).1 (ne b o e).2 e⟩
 obtain⟨oi,e1,e2⟩:=hit';exact⟨oi,(Heap.get?_update_other _ _ hSI).trans e1,e2⟩
end
section
variable{prog:Program}{w:World}{A:Around}
theorem z2n{E:Value->Shared->Prop}{s:Shared}{Q:Value->Shared->Prop}{d:Value}(hh:A.in1.handled=none){l:Addr}(hl:s.heap.IsList l #[])
  (h:∀h' tk,(∀b o,s.heap.get? b=some o->h'.get? b=some o)->Q d { s with heap:=h',toks:=tk }) :
  wpAny (model prog w) A (call (.builtin "min") [.ref l] [("default",d)]) Q E s:=by
 have hname:(toString "min"++toString ".loop":String)="min.loop":=by decide
 refine kmk_tree F.kind_min F.plain_min F.entry_min (z00 _ _) ?_;show wpAny _ A.in1 (Builtin.Builtins.bindParams "min" ["key","default"] 0 ⟨[],[("default",d)]⟩ >>= _) _ _ s;refine wpAny_bind (wpAny_of_eq (show Builtin.Builtins.bindParams "min" ["key","default"] 0 ⟨[],[("default",d)]⟩=pure [none,some d] from rfl) ?_);refine wpAny_bind (wpAny_pure ?_);refine wpAny_bind (wpAny_pyIter_list hl ?_);refine wpAny_bind (wpAny_newObj_type ?_);rw[hname];generalize hg1:s.heap.push { cls:=.type "list_iterator",data:=.fields #[.ref l,.int 0 0] }=g1;have z1:g1.objs.size=s.heap.objs.size+1:=by rw[<-hg1,Heap.size_push]
 have k1:∀b o,s.heap.get? b=some o->g1.get? b=some o:=fun b o e=>by rw[<-hg1];exact Heap.get?_push_of_some _ e
 have hit:g1.IsListIter s.heap.objs.size l 0:=⟨_,by rw[<-hg1];exact Heap.get?_push_size _ rfl,rfl,rfl⟩;have hl1:g1.IsList l #[]:=by obtain⟨o,e,r⟩:=hl;exact⟨o,k1 _ _ e,r⟩
 refine wpAny_pure ⟨plainId_quiet F.plain_min_loop _,?_⟩;refine codeAny_builtin F.entry_min_loop ?_;rw[Around.under_plainId F.plain_min_loop _];show wpAny _ A.in1 (seqItems? (.ref g1.objs.size) >>= _) _ _ _;have hS0:(g1.push { cls:=.type "list",data:=.seq #[] }).get? g1.objs.size=some { cls:=.type "list",data:=.seq #[] }:=Heap.get?_push_size _ rfl;refine wpAny_bind (wpAny_seqItems hS0 rfl ?_);show wpAny _ A.in1 (tryCatch (pyNext (.ref s.heap.objs.size)) _ >>= _) _ _ _;have hitP:(g1.push { cls:=.type "list",data:=.seq #[] }).IsListIter s.heap.objs.size l 0:=by obtain⟨o,e,r⟩:=hit;exact⟨o,Heap.get?_push_of_some _ e,r⟩
 have hlP:(g1.push { cls:=.type "list",data:=.seq #[] }).IsList l #[]:=by obtain⟨o,e,r⟩:=hl1;exact⟨o,Heap.get?_push_of_some _ e,r⟩
 refine wpAny_bind (wpAny_tryCatch (wpAny_pyNext_list_end hh hitP hlP (by simp) fun h' eb=>?_));show wpAny _ A.in1 (rule (toString "min"++toString ".default") >>= fun _=>ret d) _ _ _;refine wpAny_bind (wpAny_rule (wpAny_pure ?_));exact h _ _ fun b o e=>eb b o (Nat.ne_of_lt (Heap.lt_size e)) (Heap.get?_push_of_some _ (k1 b o e))
end
section
variable{X:Cx}
def z6K(X:Cx)(f:Value)(ks:List Str)(r:List V->List V->Hp->VK->Prop):Prop:=∀(pins:List (Addr×Obj)) (s:Shared) (σ:St) (H:Hp) (xs:List V) (us:List Value) (zs:List V) (ws:List Value) (Q:VK),Inv X pins σ H s->Vals xs us->Vals zs ws->r xs zs H Q->wpAny (model X.prog X.w) X.A (call f us (ks.zip ws)) (EP X pins σ Q) X.xe s
theorem z46{x:Str}{id:String}{ks:List Str}{p pos:Pos}{e:Expr}{es:List Expr}{kws:List Keyword}{t tk:TA}{r:List V->List V->Hp->VK->Prop}(hc:z6K X (.builtin id) ks r)(hg:Gl X x)(hm:X.mg x=none)(hv:bootBuiltins x=some (.builtin id))(ha:PA X (e::es) t)(hk:PK X kws tk)
  (hks:(backToKw pos (keywordEach kws X.env)).filterMap (·.1)=ks:=by rfl) (hn:x≠"__name__":=by decide) (hdb:(x == ("__debug__":Str))=false:=by decide)
  (he:backTo pos (starEach (e::es) X.env)=(false,eval e X.env)::backTo pos (starEach es X.env):=by rfl) (hplain:(backTo pos (starEach (e::es) X.env)).any (·.1)=false:=by rfl)
  (hall:(backToKw pos (keywordEach kws X.env)).all (·.1.isSome)=true:=by rfl) (hkw:(backToKw pos (keywordEach kws X.env)).any (·.1.isNone)=false:=by rfl) :
  PE X (.Call (.Name x p) (e::es) kws pos) (fun σ H Q=>t σ H fun vs H1=>tk σ H1 fun zs H2=>r vs zs H2 Q):=by
 intro pins s σ H Q I h;refine wpAny_Call_Name_kw (wZ I hg hm hv ?_ hn hdb);refine PyProof.Rows.callWith_kw (thn (ha pos pins s σ H _ I h) fun us s1 ⟨vs,H1,I1,r1,q1⟩=>thn (hk pos pins s1 σ H1 _ I1 q1) fun ws s2 ⟨zs,H2,I2,rz,q2⟩=>?_) he hplain hall hkw;rw[hks];exact hc pins s2 σ H2 vs us zs ws Q I2 r1 rz q2
noncomputable def z0G:PyData->PyData->Option PyData
 | .list [],d=>some d
 | .list (x::r),_=>match zh (x::r)with
  | some ns=>ns.min?.map PyData.int
  | none=>if (x::r).all xp=true then some ((x::r).getD (argBest (fun i j=>HT.lexLt (keyI ((x::r).getD i .none)) (keyI ((x::r).getD j .none))) r.length) .none)else none
 | _,_=>none
theorem z3F(hc:X.calm=true)(hu':X.A.units+64<cLine):z6K X (.builtin "min") ["default"] (fun xs zs H Q=>∃(S:Addr->Prop) (ds:List PyData) (d r:PyData) (v0 dv:V),xs=[v0]/\zs=[dv]/\Dat1 N0 S H (.list ds) v0/\DatS S H d dv/\z0G (.list ds) d=some r/\∀v,DatS S H r v->Q v H):=by
 have hu:X.A.in1.units<cLine:=by
  have:X.A.in1.units=X.A.units+1:=rfl;omega
 intro pins s σ H xs us zs ws Q I r rz h;obtain⟨S,ds,d,rr,v0,dv,rfl,rfl,h1,h2,hf,q⟩:=h;obtain⟨a,ys,rfl,g1,k1⟩:=yI h1;obtain⟨u,rfl,ru⟩:=yq r;obtain⟨wd,rfl,rw⟩:=yq rz;cases ru;have hh:X.A.in1.handled=none:=by simpa using I.ok.hd hc
 obtain⟨its,rv,pl,hz⟩:=I.list (SqL.of (K:=X.K) g1);have l1:=k1.length;have l2:=rv.length;show wpAny _ _ (call (.builtin "min") [.ref a] [("default",wd)]) _ _ _;cases ds with
 | nil=>
  simp only[z0G]at hf;cases hf;have e0:its=[]:=by
   cases its with
   | nil=>rfl
   | cons _ _=>simp at l1 l2;omega
  subst e0;refine z2n hh pl.isList fun h' tk hk=>⟨dv,H,I.kept (t':=tk) hk,rw,q _ h2⟩
 | cons x0 xr=>
  simp only[z0G]at hf;generalize hxs:x0::xr=xs at hf k1 l1;have hn:0<xs.length:=by rw[<-hxs];simp
  have hxr:xr.length=xs.length - 1:=by rw[<-hxs];simp
  cases e:zh xs with
  | some ns=>
   rw[e]at hf;dsimp only at hf;cases em:ns.min? with
   | none=>rw[em]at hf;cases hf
   | some M=>
    rw[em]at hf;cases hf;have ey:=yi e k1;subst ey;have l3:ns.length=its.length:=by simpa using l2
    have at_:∀{i:Nat} {v:Value},its[i]?=some v->∃t,v=.int (ns.getD i 0) t:=fun{i v} ev=>by
     obtain⟨y,e1,r1⟩:=rv.back ev;rw[List.getElem?_map]at e1;cases e2:ns[i]? with
     | none=>rw[e2]at e1;cases e1
     | some k=>
      rw[e2]at e1;cases e1;obtain⟨t,r1⟩:=r1;exact⟨t,by rw[r1,List.getD_eq_getElem?_getD,e2];rfl⟩
    refine z0n (bt:=fun i j=>decide (ns.getD i 0<ns.getD j 0)) hh pl.isList (by omega) (fun i j vi vj s' Q' E' e1 e2 kp hq'=>?_) fun v h' tk hv kp=>?_
    ·obtain⟨t1,rfl⟩:=at_ e1;obtain⟨t2,rfl⟩:=at_ e2;exact HT.rcLt_int _ _ _ _ _ _ _ _ _ _ hq'
    ·obtain⟨t,rfl⟩:=at_ hv;obtain⟨b1,b2⟩:=argBest_lt (fun i=>ns.getD i 0) (its.length - 1);obtain⟨m1,m2⟩:=List.min?_eq_some_iff.mp em;have hM:ns.getD (argBest (fun i j=>decide (ns.getD i 0<ns.getD j 0)) (its.length - 1)) 0=M:=by
      refine Int.le_antisymm ?_ (m2 _ (getD_mem (by omega)));obtain⟨j,hj,ej⟩:=mem_getD m1
      have:=b2 j (by omega);rw[ej]at this;exact this
     refine⟨.int M,H,I.kept (t':=tk) kp,⟨t,by rw[hM]⟩,q _ di⟩
  | none=>
   rw[e]at hf;simp only at hf;split at hf
   next ht=>
    cases hf;have ht':=List.all_eq_true.mp ht;have item:∀i,i<xs.length->∃b ns,ys[i]?=some (.ref b)/\keyI (xs.getD i .none)=ns/\H b=some (.tup (ns.map V.int))/\DatS S H (xs.getD i .none) (.ref b):=fun i hi=>by
     obtain⟨v,e1,d1⟩:=k1.get (List.getElem?_eq_getElem hi);have ed:xs.getD i .none=xs[i]:=by rw[List.getD_eq_getElem?_getD,List.getElem?_eq_getElem hi];rfl
     have a1:=ht' _ (List.getElem_mem hi);rw[ed];cases ex:xs[i]<;>rw[ex]at a1 d1<;>simp only[xp]at a1<;>try cases a1
     rename_i ts
     rw[Bool.and_eq_true]at a1;obtain⟨ns,en⟩:=Option.isSome_iff_exists.mp a1.1;have d2:=d1;simp only[DatS]at d2;obtain⟨b,zs,rfl,hb,dz⟩:=d2;have ez:=yi en dz;subst ez;exact⟨b,ns,e1,by simp only[keyI,en,Option.getD_some],hb,d1⟩
    refine z0n (bt:=fun i j=>HT.lexLt (keyI (xs.getD i .none)) (keyI (xs.getD j .none))) hh pl.isList (by omega) (fun i j vi vj s' Q' E' e1 e2 kp hq'=>?_) fun v h' tk hv kp=>?_
    ·have hi:i<xs.length:=by rw[l1,l2];exact(List.getElem?_eq_some_iff.mp e1).1
     have hj:j<xs.length:=by rw[l1,l2];exact(List.getElem?_eq_some_iff.mp e2).1
     obtain⟨b,ns,y1,n1,t1,_⟩:=item i hi;obtain⟨c,ms,y2,n2,t2,_⟩:=item j hj;obtain⟨v1,e3,rr1⟩:=rv.get y1;obtain⟨v2,e4,rr2⟩:=rv.get y2;rw[e3]at e1;cases e1;rw[e4]at e2;cases e2;cases rr1;cases rr2;obtain⟨its1,q1,p1,_⟩:=I.tuple (SqT.of (K:=X.K) t1);obtain⟨its2,q2,p2,_⟩:=I.tuple (SqT.of (K:=X.K) t2);have up:∀{c:Addr} {xs:Array Value},IsTup s.heap c xs->IsTup s'.heap c xs:=fun{c xs} t=>by
      obtain⟨o,e,r⟩:=t;exact⟨o,kp _ _ e,r⟩
     rw[n1,n2]at hq';exact HT.lt_tupInts (up p1) (up p2) (L2.intsAre_of q1) (L2.intsAre_of q2) hu hq'
    ·have hb:argBest (fun i j=>HT.lexLt (keyI (xs.getD i .none)) (keyI (xs.getD j .none))) (its.length - 1)<xs.length:=by rw[l1,l2];exact(List.getElem?_eq_some_iff.mp hv).1
     obtain⟨b,ns,y1,n1,t1,d1⟩:=item _ hb;obtain⟨v1,e3,rr1⟩:=rv.get y1;rw[e3]at hv;cases hv;cases rr1;refine⟨.ref b,H,I.kept (t':=tk) kp,rfl,q _ ?_⟩;rw[hxr,show xs.length=its.length by rw[l1,l2]];exact d1
   next=>cases hf
noncomputable def mMinD(m md:Env'->Mx D):Env'->Mx D:=fun ρ=>m ρ >>= fun x=>md ρ >>= fun d=>Mx.opt ((onP2 z0G x d).map D.p)
theorem z1f{K:W.Frag}{Er:Str->Hp->Prop}{e dx:Expr}{m md:Env'->Mx D}{p pos kpos:Pos}(hc:X.calm=true)(hu:X.A.units+64<cLine)(hg:Gl X "min")(hm:X.mg "min"=none)(hv:bootBuiltins "min"=some (.builtin "min"))(he:DW K Er X e m)(hd:DE K Er X dx md)(hs:starEach [e] X.env=(false,eval e X.env)::starEach [] X.env:=by rfl)
  (h1:backTo pos (starEach [e] X.env)=(false,eval e X.env)::backTo pos (starEach [] X.env):=by rfl) (h2:(backTo pos (starEach [e] X.env)).any (·.1)=false:=by rfl) :
  DE K Er X (.Call (.Name "min" p) [e] [⟨some "default",dx,kpos⟩] pos) (mMinD m md):=
 (z46 (ks:=["default"]) (z3F hc hu) hg hm hv (zK he pa_nil hs) (z6T hd z81) rfl (by decide) (by decide) h1 h2 rfl rfl).imp fun σ H Q h=>rd1 h (fun _ _ _ _ _ _ _ _ _ _ r=>r) fun g ow ρ n d v H0 H1 fr _ r q=>by
  refine⟨g,ow,ρ,n,fr,AftG.bind q fun d2 n2 v2 H2 k2 t2 r2 c2=>?_⟩;have q2:=c2 (R3:=RE g (g.S ow)) fun _ _ _ z=>z;obtain⟨z,e,q3⟩:=xB t2 q2;obtain⟨x,y,rfl,rfl,e1⟩:=zo e;have r1:Dat1 g.U (g.S ow) H2 x v:=Rep1.d1 (Rep1.kp k2 Gh.us r);cases x<;>simp only[z0G]at e1<;>try (cases e1;done)
  rename_i ds
  exact⟨g.S ow,ds,y,z,v,v2,rfl,rfl,Dat1.weak r1,r2,e1,fun v hv=>q3 v H2 (Same.refl _) hv⟩
end
section
variable{prog:Program}{w:World}{A:Around}{R:Result->Shared->Prop}
end
section
variable{X:Cx}
variable{K:W.Frag}{Er:Str->Hp->Prop}{m:Env'->Mx D}
end
section
variable{X:Cx}{pins:List (Addr×Obj)}{σ:St}{H:Hp}{s:Shared}{scope:Scope}{N':List Str}{xs:List Str}{fp:List Addr}
noncomputable def g2(K:W.Frag)(i:Nat):TG:=gTup K 2 (z7M (uR i) (z7M (uR (i+1)) gNil))
end
section
variable{prog:Program}{w:World}{A:Around}{E:Value->Shared->Prop}{s:Shared}
def DictIs(h:Heap)(d:Addr)(es:Array DictEntry)(ep:Nat):Prop:=∃o,h.get? d=some o/\o.ExactDict/\o.data=.dict es ep
theorem DictIs.at{h h':Heap}{d:Addr}{es:Array DictEntry}{ep:Nat}(x:DictIs h d es ep)(e:∀o,h.get? d=some o->h'.get? d=some o):DictIs h' d es ep:=by
 obtain⟨o,ho,r⟩:=x;exact⟨o,e _ ho,r⟩
theorem DictIs.typeIs{d:Addr}{es:Array DictEntry}{ep:Nat}(x:DictIs s.heap d es ep):s.TypeIs (.ref d) "dict":=by
 obtain⟨o,ho,hc,_⟩:=x;exact⟨o,ho,hc.1⟩
theorem z4N{it d:Addr}{i ep:Nat}{es:Array DictEntry}{Q:Option Value->Shared->Prop}(hit:s.heap.IsKeyIter it d i es.size ep)(hm:DictIs s.heap d es ep)(hlt:i<es.size)
  (hQ:∀h',h'.IsKeyIter it d (i+1) es.size ep->Heap.SameBut it s.heap h'->Q (some es[i].key) { s with heap:=h' }):wpAny (model prog w) A (pyNext (.ref it)) Q E s:=by
 obtain⟨o,ho,hc,hd⟩:=id hit;obtain⟨od,hod,hcd,hdd⟩:=id hm;unfold pyNext;refine wpAny_bind (wpAny_attempt (wpAny_callSpecial?_slot (name:=Str.ofString "__next__") hit.typeIs F.slot_dict_keyiterator_next (wpAny_call_entry F.slot_dict_keyiterator_next hit.typeIs F.entry_dict_keyiterator_next ?_ (F.args_dict_keyiterator_next_1 _))));refine wpAny_bind (wpAny_pure (wpAny_bind (wpAny_bind ?_)));refine wpAny_bind (wpAny_typeNameOfWhole_keyiter hit.typeIs (wpAny_pure ?_));refine wpAny_bind (wpAny_fieldsOf ho hd ?_);have hown:Builtin.Dict_items.ownsTuple "dict_keyiterator"=false:=by decide
 simp only[hown,Bool.false_eq_true,if_false];show wpAny _ _ (if (Value.ref d == Value.none)=true then _ else _) _ _ s;rw[if_neg (show ¬((Value.ref d == Value.none)=true) from Bool.false_ne_true)];refine wpAny_bind (wpAny_pure (wpAny_bind (wpAny_dictEntries hod hdd ?_)));rw[if_neg (by simp)];refine wpAny_bind (wpAny_pure (wpAny_bind (wpAny_dictEpoch hod hdd ?_)));rw[if_neg (by simp)];refine wpAny_pure ?_;simp only[show ¬((i:Int)<0) from by omega,if_false,Int.toNat_natCast,Array.getElem?_eq_getElem hlt];refine wpAny_bind (wpAny_bind (wpAny_typeNameOfWhole_keyiter hit.typeIs (wpAny_pure ?_)));refine wpAny_bind (wpAny_isOneOf_keyiter hit.typeIs ?_);show wpAny _ _ (setField (.ref it) 1 (rawInt ((i:Int)+1)) >>= _) _ _ s;refine wpAny_bind (wpAny_setField ho hd (by simp) ?_);have hit':(s.heap.update it (Obj.mapFields (·.setIfInBounds 1 (rawInt ((i:Int)+1))))).IsKeyIter it d (i+1) es.size ep:=
  ⟨_,Heap.get?_update_self _ ho (Obj.isFreed_of_fields (Obj.data_mapFields hd _)),(Obj.cls_mapFields ..).trans hc,by rw[Obj.data_mapFields hd];simp[rawInt]⟩
 refine wpAny_bind (wpAny_holding ?_);refine wpAny_bind (wpAny_isOneOf_keyiter (s:={ s with heap:=s.heap.update it (Obj.mapFields (·.setIfInBounds 1 (rawInt ((i:Int)+1)))) }) hit'.typeIs ?_);show wpAny _ _ (pure es[i].key) _ _ _;exact wpAny_pure (wpAny_pure ⟨_,rfl,wpAny_pure (hQ _ hit' (Heap.SameBut.update ..))⟩)
theorem z65{it d:Addr}{ep:Nat}{es:Array DictEntry}{Q:Option Value->Shared->Prop}(hh:A.handled=none)(hit:s.heap.IsKeyIter it d es.size es.size ep)(hm:DictIs s.heap d es ep)
  (hQ:∀h',Heap.ExtBut it s.heap h'->Q none { s with heap:=h' }):wpAny (model prog w) A (pyNext (.ref it)) Q E s:=by
 obtain⟨o,ho,hc,hd⟩:=id hit;obtain⟨od,hod,hcd,hdd⟩:=id hm;unfold pyNext;refine wpAny_bind (wpAny_attempt (wpAny_callSpecial?_slot (name:=Str.ofString "__next__") hit.typeIs F.slot_dict_keyiterator_next (wpAny_call_entry F.slot_dict_keyiterator_next hit.typeIs F.entry_dict_keyiterator_next ?_ (F.args_dict_keyiterator_next_1 _))));refine wpAny_bind (wpAny_pure (wpAny_bind (wpAny_bind ?_)));refine wpAny_bind (wpAny_typeNameOfWhole_keyiter hit.typeIs (wpAny_pure ?_));refine wpAny_bind (wpAny_fieldsOf ho hd ?_);have hown:Builtin.Dict_items.ownsTuple "dict_keyiterator"=false:=by decide
 simp only[hown,Bool.false_eq_true,if_false];show wpAny _ _ (if (Value.ref d == Value.none)=true then _ else _) _ _ s;rw[if_neg (show ¬((Value.ref d == Value.none)=true) from Bool.false_ne_true)];refine wpAny_bind (wpAny_pure (wpAny_bind (wpAny_dictEntries hod hdd ?_)));rw[if_neg (by simp)];refine wpAny_bind (wpAny_pure (wpAny_bind (wpAny_dictEpoch hod hdd ?_)));rw[if_neg (by simp)];refine wpAny_pure ?_;simp only[show ¬((es.size:Int)<0) from by omega,if_false,Int.toNat_natCast,Array.getElem?_eq_none (Nat.le_refl es.size)];refine wpAny_bind (wpAny_bind (wpAny_typeNameOfWhole_keyiter hit.typeIs (wpAny_pure ?_)));show wpAny _ _ (setField (.ref it) 0 .none >>= _) _ _ s;refine wpAny_bind (wpAny_setField ho hd (by simp) ?_);show wpAny _ _ (newExc (.type "StopIteration") [] >>= _) _ _ _;refine wpAny_bind ?_;simp only[newExc,newTuple];refine wpAny_bind (wpAny_newObj_type ?_ (by size_fits));refine wpAny_bind (m:=firstArgMember _ _) (wpAny_of_eq (a:=Value.none) (by first | rfl | (simp only[firstArgMember];rfl)) ?_);refine wpAny_newObj_type ?_ (by size_fits);simp only[raiseNew];refine wpAny_bind (wpAny_handled ?_);rw[show A.in1.handled=none from hh];refine wpAny_bind (wpAny_pure (wpAny_throw ?_));refine wpAny_bind (wpAny_isInstance (T:="StopIteration") (b:=true) ⟨_,Heap.get?_push_size _ rfl,rfl⟩ isSubtype_stop ?_);exact wpAny_pure (hQ _ (((Heap.SameBut.update ..).extBut.push _).push _))
theorem z7D(hh:A.handled=none)(I d:Addr)(hne:d≠I){ep:Nat}{es:Array DictEntry}:
  PySem.Walks prog w A I [I,d] [I] es.size (fun i v=>(es[i]?.map (·.key))=some v) (fun i h=>h.IsKeyIter I d i es.size ep/\DictIs h d es ep) where
 sub:=fun b hb=>by simp at hb;simp[hb]
 frame:=fun _ _ _ st hk=>⟨st.1.at fun o e=>hk I (by simp) o e,st.2.at fun o e=>hk d (by simp) o e⟩
 item:=fun i s Q E hi st hQ=>by
  refine z4N st.1 st.2 hi fun h' hit' hs'=>?_;exact hQ _ h' s.toks (by rw[Array.getElem?_eq_getElem hi];rfl) ⟨hit',st.2.at fun o e=>hs'.extBut d o hne e⟩ fun b o hb e=>hs'.extBut b o (fun h=>hb (by simp[h])) e
 done:=fun s Q E st hQ=>z65 hh st.1 st.2 fun h' he'=>hQ h' s.toks fun b o hb e=>he' b o (fun h=>hb (by simp[h])) e
 self:=fun _ _ _ _ st hQ=>wpAny_pyIter_keyiter st.1 hQ
theorem z7p{d:Addr}{es:Array DictEntry}{ep:Nat}{Q:Value->Shared->Prop}(hd:(d == sysModules)=false)(hm:DictIs s.heap d es ep)
  (hQ:Q (.ref s.heap.objs.size) { s with heap:=s.heap.push { cls:=.type "dict_keyiterator",data:=.fields #[.ref d,.int 0 0,.int (es.size:Int) 0,.int (ep:Int) 0] } }):wpAny (model prog w) A (pyIter (.ref d)) Q E s:=by
 obtain⟨o,ho,hc,hdat⟩:=id hm;have hT:=hm.typeIs;refine wpAny_pyIter_slot hT F.slot_dict_iter (wpAny_call_entry F.slot_dict_iter hT F.entry_dict_iter ?_ (F.args_dict_iter_1 _));unfold Builtin.«dict.__iter__»;refine wpAny_bind ?_;unfold Builtin.Dict.dictSlotNone;refine wpAny_bind (wpAny_notOrdered_dict hT ?_);show wpAny _ _ (pure (Value.ref d)) _ _ s;refine wpAny_pure ?_;show wpAny _ _ (Builtin.Dict.showsAll d >>= _) _ _ s;unfold Builtin.Dict.showsAll;rw[if_neg (by rw[hd];exact Bool.false_ne_true)];refine wpAny_bind (wpAny_pure (wpAny_bind (wpAny_dictEntries ho hdat (wpAny_bind (wpAny_dictEpoch ho hdat ?_)))));exact wpAny_bind (wpAny_newObj_type (wpAny_pure ⟨_,rfl,"dict_keyiterator",_,⟨_,Heap.get?_push_size _ rfl,rfl⟩,F.slot_dict_keyiterator_next.lookup,hQ⟩))
end
theorem z7J:typeLookup (.type "dict") "__len__"=pure (some (.builtin "dict.__len__")):=by rw[typeLookup_type,builtinLookup_eq_fast];kernel_rfl
section
variable{prog:Program}{w:World}{A:Around}{E:Value->Shared->Prop}{s:Shared}
theorem z53{S:Addr}{ep:Nat}{es:Array DictEntry}{Q:List Value->Shared->Prop}(hh:A.handled=none)(hsys:(S == sysModules)=false)(hz:es.size<=sizeLine)(hS:DictIs s.heap S es ep)
  (hQ:∀h' tk,(∀b o,s.heap.get? b=some o->h'.get? b=some o)->Q (es.toList.map (·.key)) { s with heap:=h',toks:=tk }) :
  wpAny (model prog w) A (collect (.ref S)) Q E s:=by
 obtain⟨o,ho,hex,hd⟩:=id hS;have hSlt:=Heap.lt_size ho;unfold collect;refine wpAny_bind (wpAny_runValue (codeAny_builtin F.entry_proto_collect ?_));rw[Around.under_plainId F.plain_proto_collect _];show wpAny _ A.in1 (newList [] >>= fun l=>again (.builtin "list.__iadd__" ⟨[l,.ref S],[]⟩)) _ _ s;refine wpAny_bind (wpAny_newObj_type ?_);refine wpAny_pure ⟨plainId_quiet F.plain_list_iadd _,codeAny_builtin F.entry_list_iadd ?_⟩;rw[Around.under_plainId F.plain_list_iadd _];show wpAny _ A.in1 (Builtin.List.listExtendWith (.ref s.heap.objs.size) (.ref S) (.ref s.heap.objs.size)) _ _ _;unfold Builtin.List.listExtendWith;generalize hH:s.heap.push { cls:=.type "list",data:=.seq ([]:List Value).toArray }=H;have hHs:H.objs.size=s.heap.objs.size+1:=by rw[<-hH,Heap.size_push]
 have keep:∀b ob,s.heap.get? b=some ob->H.get? b=some ob:=fun b ob e=>hH▸Heap.get?_push_of_some _ e;have hS1:DictIs H S es ep:=hS.at fun ob e=>keep S ob e;have hT:Shared.TypeIs { s with heap:=H } (.ref S) "dict":=⟨o,keep _ _ ho,hex.1⟩;refine wpAny_bind (wpAny_typeOf (T:="dict") (v:=.ref S) hT ?_);have hSI:s.heap.objs.size≠S:=Nat.ne_of_gt hSlt;have h1:Builtin.List.listSameRef (.ref s.heap.objs.size) (.ref S)=false:=by simp[Builtin.List.listSameRef,hSI]
 have h2:(Value.type "dict" == Value.type "list")=false:=by decide
 have h3:(Value.type "dict" == Value.type "tuple")=false:=by decide
 simp only[h1,h2,h3,Bool.or_false,Bool.false_eq_true,if_false];refine wpAny_bind (z7p (s:={ s with heap:=H }) hsys hS1 ?_);have hT2:Shared.TypeIs { s with heap:=H.push { cls:=.type "dict_keyiterator",data:=.fields #[.ref S,.int 0 0,.int (es.size:Int) 0,.int (ep:Int) 0] } } (.ref S) "dict":=⟨o,Heap.get?_push_of_some _ (keep _ _ ho),hex.1⟩;refine wpAny_bind (wpAny_holding ?_);unfold Builtin.List.listLengthHint;refine wpAny_bind (wpAny_specialOf (T:="dict") (v:=.ref S) hT2 z7J ?_)
 wp_delta
 refine wpAny_bind (wpAny_isInstance (T:="dict") (v:=.ref S) (b:=true) hT2 (by rw[isSubtype_type];kernel_rfl) ?_);show wpAny _ A.in1 (typeOf (Value.ref S) >>= _) _ _ _;refine wpAny_bind (wpAny_typeOf (T:="dict") (v:=.ref S) hT2 ?_);refine wpAny_pure ?_;rw[if_pos (by decide)];have hSf:s.heap.objs.size∉[H.objs.size,S]:=by
  rw[hHs];simp only[List.mem_cons,List.mem_singleton,List.not_mem_nil,or_false,not_or];exact⟨Nat.ne_of_lt (Nat.lt_succ_self _),hSI⟩
 have hL:(H.push { cls:=.type "dict_keyiterator",data:=.fields #[.ref S,.int 0 0,.int (es.size:Int) 0,.int (ep:Int) 0] }).get? s.heap.objs.size=some { cls:=.type "list",data:=.seq ([]:List Value).toArray }:=Heap.get?_push_of_some _ (hH▸Heap.get?_push_size _ rfl);have hneI:S≠H.objs.size:=by rw[hHs];exact Nat.ne_of_lt (Nat.lt_succ_of_lt hSlt)
 refine wpAny_bind (wpAny_rule ?_);unfold Builtin.List.listTouch;refine wpAny_bind (wpAny_bind (listUpdate_at hL rfl ?_ (by decide) (by decide)));have g1:=Heap.get?_update_self (Obj.mapSeq (·.push .none)) hL rfl;refine listUpdate_at g1 rfl ?_ (by decide) (by decide);have g2:=Heap.get?_update_self (Obj.mapSeq (·.pop)) g1 rfl;have sb:=(Heap.SameBut.update (H.push { cls:=.type "dict_keyiterator",data:=.fields #[.ref S,.int 0 0,.int (es.size:Int) 0,.int (ep:Int) 0] }) s.heap.objs.size (Obj.mapSeq (·.push .none))).trans (Heap.SameBut.update _ s.heap.objs.size (Obj.mapSeq (·.pop)));generalize hH2:((H.push { cls:=.type "dict_keyiterator",data:=.fields #[.ref S,.int 0 0,.int (es.size:Int) 0,.int (ep:Int) 0] }).update s.heap.objs.size (Obj.mapSeq (·.push .none))).update s.heap.objs.size (Obj.mapSeq (·.pop))=H2 at g2 sb |-;have hIT:H2.get? H.objs.size=some { cls:=.type "dict_keyiterator",data:=.fields #[.ref S,.int 0 0,.int (es.size:Int) 0,.int (ep:Int) 0] }:=sb.extBut _ _ (by rw[hHs];exact Nat.ne_of_gt (Nat.lt_succ_self _)) (Heap.get?_push_size _ rfl);have hI0:H2.IsKeyIter H.objs.size S 0 es.size ep:=⟨_,hIT,rfl,rfl⟩;have hS2:DictIs H2 S es ep:=hS1.at fun ob e=>sb.extBut _ _ (Ne.symm hSI) (Heap.get?_push_of_some _ e);refine wpAny_pure ⟨plainId_quiet F.plain_extend_loop _,codeAny_extend_loopS (z7D (A:=A.in1) (ep:=ep) (es:=es) hh H.objs.size S hneI).toS hz _ hSf _ es.size 0 _ _ _ rfl (Nat.zero_le _) ⟨hI0,hS2⟩ g2 (ItemsOf.nil _) fun s' acc' c' hmv hS' hacc=>?_⟩;show wpAny _ A (load s.heap.objs.size >>= _) _ _ s';refine wpAny_bind (wpAny_load hS' ?_);obtain⟨h',g',d',tk',os'⟩:=s';have eg:g'=s.gens:=hmv.gens;have ed:d'=s.drawn:=hmv.drawn;have eo:os'=s.os:=hmv.os;subst eg;subst ed;subst eo;have eacc:acc'.toList=es.toList.map (·.key):=by
  refine List.ext_getElem? fun i=>?_;rw[List.getElem?_map,Array.getElem?_toList,Array.getElem?_toList];cases e:acc'[i]? with
  | some v=>exact(hacc.2 i v e).symm
  | none=>
   have h1:=Array.getElem?_eq_none_iff.mp e;rw[hacc.1]at h1;rw[Array.getElem?_eq_none (by omega)];rfl
 refine wpAny_pure ?_;rw[eacc];refine hQ h' tk' fun b ob e=>hmv.heap b ob (fun hb=>?_) (sb.extBut _ _ (Nat.ne_of_lt (Heap.lt_size e)) (Heap.get?_push_of_some _ (keep _ _ e)));have hlt:=Heap.lt_size e;rcases List.mem_cons.mp hb with h | h
 ·exact absurd hlt (h▸Nat.lt_irrefl _)
 ·rw[List.mem_singleton.mp h,hHs]at hlt;exact absurd hlt (Nat.not_lt.mpr (Nat.le_succ _))
end
variable{X:Cx}
theorem z20{S:Addr->Prop}{H:Hp}:∀(k:List Key),DatsS S H (k.map kD) (k.map kV)
 | []=>.nil
 | .inl i::k=>.cons di (z20 k)
 | .inr x::k=>.cons (by show DatS S H (.str x) (.str x);simp only[DatS]) (z20 k)
theorem z14{S:Addr->Prop}{H:Hp}:∀{kvs:List (PyData×PyData)} {ks:List (PyData×V)},DctS S H kvs ks->kvs.map (·.1)=ks.map (·.1)
 | [],ks,h=>by simp only[DctS]at h;rw[h];rfl
 | (k,d)::r,ks,h=>by
  simp only[DctS]at h;obtain⟨x,q,rfl,_,h2⟩:=h;rw[List.map_cons,List.map_cons,z14 h2]
theorem z3D{pins:List (Addr×Obj)}{s:Shared}{σ:L2.St}{H:Hp}{S:Addr->Prop}{a:Addr}{kvs:List (PyData×PyData)}{ks:List (PyData×V)}(I:L2.Inv X pins σ H s)(h:DctAt H a ks)(hd:DctS S H kvs ks):
  ∃(es:Array DictEntry) (ep:Nat) (xs:List V),DictIs s.heap a es ep/\(a == sysModules)=false/\es.size<=sizeLine/\Vals xs (es.toList.map (·.key))/\DatsS S H (kvs.map (·.1)) xs:=by
 rw[z14 hd];rcases h with ⟨l,h,rfl⟩ | ⟨l,h,rfl⟩
 ·obtain⟨z,y,vs,kv,o,es,ep,h1,h2,h3,h4,h5,_⟩:=z2i I.hok h;have gen:∀{l:List (Key×V)} {vs:List (Key×Value)} {es:List DictEntry},KV l vs->Pairs (zd X.prog X.w) es vs->∃xs,Vals xs (es.map (·.key))/\DatsS S H ((l.map fun kv=>(kD kv.1,kv.2)).map (·.1)) xs/\es.length=l.length:=by
   intro l vs es k1 k2
   induction k1 generalizing es with
   | nil=>cases k2;exact⟨[],.nil,.nil,rfl⟩
   | @cons p q ps qs hq t ih=>
    cases k2 with
    | cons e1 e2 e3=>
     obtain⟨xs,v1,v2,v3⟩:=ih e3;rw[<-hq.1]at e1;obtain⟨k,v⟩:=p;refine⟨kV k::xs,.cons ?_ v1,.cons ?_ v2,by simp[v3]⟩
     ·cases k with
      | inl i=>exact Value.isInt_shape e1
      | inr x=>exact Value.isStrOf_shape e1
     ·cases k with
      | inl i=>exact di
      | inr x=>show DatS S H (.str x) (.str x);simp only[DatS]
  obtain⟨xs,v1,v2,v3⟩:=gen kv h5;exact⟨es,ep,xs,⟨o,h1,h2,h3⟩,y,by rw[<-Array.length_toList,v3];exact z,v1,v2⟩
 ·obtain⟨z,y,vs,kt,o,es,ep,h1,h2,h3,h4,_⟩:=z2r I.hok h;have gen:∀{l:List (List Key×V)} {vs:List (List Key×Addr×Value)},KT H l vs->∃xs,Vals xs ((vs.map (entryOfKey (tupleKind (zd X.prog X.w)))).map (·.key))/\DatsS S H ((l.map fun kv=>(kT kv.1,kv.2)).map (·.1)) xs/\vs.length=l.length:=by
   intro l vs k1
   induction k1 with
   | nil=>exact⟨[],.nil,.nil,rfl⟩
   | @cons p q ps qs hq t ih=>
    obtain⟨xs,v1,v2,v3⟩:=ih;refine⟨.ref q.2.1::xs,.cons rfl v1,.cons ?_ v2,by simp[v3]⟩;show DatS S H (kT p.1) (.ref q.2.1);unfold kT;simp only[DatS];exact⟨_,_,rfl,hq.2.1,z20 p.1⟩
  obtain⟨xs,v1,v2,v3⟩:=gen kt;refine⟨es,ep,xs,⟨o,h1,h2,h3⟩,y,?_,by rw[h4];exact v1,v2⟩;rw[<-Array.length_toList,h4,List.length_map,v3];exact z
theorem z2u{pins:List (Addr×Obj)}{s:Shared}{σ:L2.St}{H:Hp}{Q:VK}{S:Addr->Prop}{a:Addr}{kvs:List (PyData×PyData)}{ks:List (PyData×V)}(hc:X.calm=true)(I:L2.Inv X pins σ H s)(hS:∀a,S a->H a≠none)(h:DctAt H a ks)(hd:DctS S H kvs ks)(hs:zk (kvs.map (·.1))=true)
  (q:∀v H',Same H H'->DatS S H' (.list (wG keyI (kvs.map (·.1)))) v->Q v H'):wpAny (model X.prog X.w) X.A (call (.builtin "sorted") [.ref a]) (EP X pins σ Q) X.xe s:=by
 obtain⟨es,ep,xs,h1,h2,h3,rv,dv⟩:=z3D (S:=S) I h hd;exact xX I hS dv rv hs (fun Q' hq'=>z53 (A:=X.A.in1) (I.ok.hd hc) h2 h3 h1 hq') q
noncomputable def zV:List PyData->Option PyData
 | [.dict kvs]=>if zk (kvs.map (·.1))=true then some (.list (wG keyI (kvs.map (·.1))))else none
 | ds=>x6 ds
theorem yE(hc:X.calm=true)(hu:X.A.units+64<cLine):CallR X (.builtin "sorted") (rDn zV):=by
 intro pins s σ H xs us Q I r h;obtain⟨S,ds,rr,hS,h1,hf,q⟩:=h;by_cases hk:∃kvs,ds=[.dict kvs]
 ·obtain⟨kvs,rfl⟩:=hk;simp only[zV]at hf;split at hf
  next hs=>
   cases hf;obtain⟨v,rfl,r1⟩:=all1 h1;obtain⟨a,ks,rfl,g1,k1⟩:=z1J r1;obtain⟨u,rfl,ru⟩:=yq r;cases ru;exact z2u hc I hS g1 k1 hs q
  next=>cases hf
 ·have e:zV ds=x6 ds:=by
   unfold zV;split
   next kvs=>exact absurd ⟨kvs,rfl⟩ hk
   next=>rfl
  rw[e]at hf;exact z3n hu pins s σ H xs us Q I r ⟨S,ds,rr,hS,h1,hf,q⟩
end L2
namespace L2
open PySem PySem.Spec PyProof.Rows
section
variable{X:Cx}
theorem Inv.freeze{pins:List (Addr×Obj)}{σ:L2.St}{H:Hp}{s:Shared}{a:Addr}{u:HO}(I:L2.Inv X pins σ H s)(e:H a=some u)(hk:wI u):∃o,s.heap.get? a=some o/\L2.Inv X pins σ (upd H a (.frz o u)) s:=by
 have ok:=I.hok a u e;have mu:Mut (some u):=by cases u<;>first | exact True.intro | exact hk
 obtain⟨o,ho⟩:∃o,s.heap.get? a=some o:=by
  cases u with
  | dK l=>obtain⟨_,_,_,_,o,_,_,q,_⟩:=ok;exact⟨_,q⟩
  | dT l=>obtain⟨_,_,_,_,o,_,_,q,_⟩:=ok;exact⟨_,q⟩
  | _=>exact hk.elim
 refine⟨o,ho,?_⟩;have nown:∀c y,H c=some (.own y)->c≠a:=fun c y r z=>by subst z;rw[e]at r;cases r;exact mu
 have ntup:∀c xs,H c=some (.tup xs)->c≠a:=fun c xs r z=>by subst z;rw[e]at r;cases r;exact mu
 have new:ObjOk X.prog X.w (upd H a (.frz o u)) s.heap a (.frz o u):=⟨ho,ok.stay (fun c v _ q=>q) (fun c r=>by rw[z9 (nown c a r)];exact r) fun c xs r=>by rw[z9 (ntup c xs r)];exact r⟩
 have:=I.write (t':=s.toks) (h':=s.heap) (x:=a) (e:=a) (o:=.frz o u) (by rw[e];exact mu) (.inl rfl) (fun b v _ q=>q) ⟨o,ho⟩ new;exact this
theorem Inv.thaw{pins:List (Addr×Obj)}{σ:L2.St}{H:Hp}{s:Shared}{a:Addr}{o:Obj}{u:HO}(I:L2.Inv X pins σ H s)(e:H a=some (.frz o u))(h0:∀o u,X.H₀ a≠some (.frz o u)):L2.Inv X pins σ (upd H a u) s:=by
 have ne:∀{b:Addr} {x:Option HO},H b=x->x≠some (.frz o u)->b≠a:=fun{b x} r z q=>by subst q;rw[e]at r;exact z r.symm
 have ok:=I.hok a _ e;have stay:∀{b:Addr} {w:HO},ObjOk X.prog X.w H s.heap b w->ObjOk X.prog X.w (upd H a u) s.heap b w:=fun{b w} q=>
  q.stay (fun c v _ q=>q) (fun c r=>by rw[z9 (ne r (fun z=>nomatch z))];exact r) fun c xs r=>by rw[z9 (ne r (fun z=>nomatch z))];exact r
 refine⟨I.ok,I.os,I.bare,⟨I.base.keep,I.base.slot,fun b w q n hx=>?_,I.base.there,fun b xs q=>?_,fun b w v q=>?_,fun b ps q=>?_⟩,I.loc,I.cell,?_,fun x c q=>?_,fun p hp=>?_,fun b w q=>?_,I.len⟩
 ·have r:=I.base.free b w q n hx;rw[z9 (ne r (fun z=>nomatch z))];exact r
 ·have r:=I.base.tups b xs q;rw[z9 (ne r (fun z=>nomatch z))];exact r
 ·have r:=I.base.frzs b w v q;have hb:b≠a:=fun z=>by subst z;exact h0 w v q
  rw[z9 hb];exact r
 ·obtain⟨more,r⟩:=I.base.tbls b ps q;exact⟨more,by rw[z9 (ne r (fun z=>nomatch z))];exact r⟩
 ·rw[z9 (ne I.free (fun z=>nomatch z))];exact I.free
 ·rw[z9 (ne (I.freeC x c q) (fun z=>nomatch z))];exact I.freeC x c q
 ·obtain⟨p1,p2,p3⟩:=I.pin p hp;exact⟨p1,by rw[z9 (ne p2 (fun z=>nomatch z))];exact p2,p3⟩
 ·by_cases hb:b=a
  ·subst hb;rw[z6]at q;cases q;exact stay ok.2
  ·rw[z9 hb]at q;exact stay (I.hok b w q)
def Thw(H:Hp)(Z:Hp->Prop)(H1:Hp):Prop:=Z H1\/∃a o u,(∀o u,H a≠some (.frz o u))/\H1 a=some (.frz o u)/\Z (upd H1 a u)
theorem Inv.thw{pins pins0:List (Addr×Obj)}{σ σ0:L2.St}{H H1:Hp}{s s0:Shared}{Z:Hp->Prop}(I0:L2.Inv X pins0 σ0 H s0)(I:L2.Inv X pins σ H1 s)(h:Thw H Z H1):∃H2,L2.Inv X pins σ H2 s/\Z H2:=by
 rcases h with h | ⟨a,o,u,hn,e,h⟩
 ·exact⟨H1,I,h⟩
 ·exact⟨_,I.thaw e fun o u z=>hn o u (I0.base.frzs a o u z),h⟩
theorem z7A{e:Expr}{t:TE}(h:PE X e t):PE X e (fun σ H Q=>t σ H fun x H1=>Thw H (Q x) H1):=fun pins s σ H Q I q=>
 thn (h pins s σ H _ I q) fun v s1 ⟨x,H1,I1,r1,q1⟩=>by
  obtain⟨H2,I2,q2⟩:=Inv.thw I I1 q1;exact⟨x,H2,I2,r1,q2⟩
end
def Mv(H H':Hp):Prop:=(∀b xs,H b=some (.tup xs)->H' b=some (.tup xs))/\(∀b xs,H b=some (.lst xs)->H' b=some (.lst xs))/\∀b u,wI u->Rd H b u->Rd H' b u
theorem z84{H:Hp}{a:Addr}{u:HO}{o:Obj}(e:H a=some u)(hd:wI u):Mv H (upd H a (.frz o u)):=by
 refine⟨fun b xs q=>?_,fun b xs q=>?_,fun b w hw q=>?_⟩
 ·rw[z9 (fun z=>by subst z;rw[e]at q;cases q;exact hd)];exact q
 ·rw[z9 (fun z=>by subst z;rw[e]at q;cases q;exact hd)];exact q
 ·by_cases hb:b=a
  ·subst hb;rcases q with q | ⟨o',q⟩
   ·rw[e]at q;cases q;exact .inr ⟨o,z6⟩
   ·rw[e]at q;cases q;exact hd.elim
  ·rcases q with q | ⟨o',q⟩
   ·exact .inl (by rw[z9 hb];exact q)
   ·exact .inr ⟨o',by rw[z9 hb];exact q⟩
theorem z8L{H:Hp}{a:Addr}{u:HO}{o:Obj}(e:H a=some (.frz o u)):Mv H (upd H a u):=by
 refine⟨fun b xs q=>?_,fun b xs q=>?_,fun b w hw q=>?_⟩
 ·rw[z9 (fun z=>by subst z;rw[e]at q;cases q)];exact q
 ·rw[z9 (fun z=>by subst z;rw[e]at q;cases q)];exact q
 ·by_cases hb:b=a
  ·subst hb;rcases q with q | ⟨o',q⟩
   ·rw[e]at q;cases q;exact hw.elim
   ·rw[e]at q;cases q;exact .inl z6
  ·rcases q with q | ⟨o',q⟩
   ·exact .inl (by rw[z9 hb];exact q)
   ·exact .inr ⟨o',by rw[z9 hb];exact q⟩
theorem DctAt.mv{H H':Hp}{a:Addr}{ks:List (PyData×V)}(m:Mv H H')(h:DctAt H a ks):DctAt H' a ks:=by
 rcases h with ⟨l,h,e⟩ | ⟨l,h,e⟩
 ·exact .inl ⟨l,m.2.2 _ _ True.intro h,e⟩
 ·exact .inr ⟨l,m.2.2 _ _ True.intro h,e⟩
mutual
theorem DatS.mv{S:Addr->Prop}{H H':Hp}(s:Mv H H'):∀{d:PyData} {v:V},DatS S H d v->DatS S H' d v
 | .none,_,h=>by simp only[DatS]at h |-;exact h
 | .bool _,_,h=>by simp only[DatS]at h |-;exact h
 | .int _,_,h=>by simp only[DatS]at h |-;exact h
 | .str _,_,h=>by simp only[DatS]at h |-;exact h
 | .list _,_,h=>by
  simp only[DatS]at h |-;obtain⟨a,xs,e,h0,h1,h2⟩:=h;exact⟨a,xs,e,h0,s.2.1 _ _ h1,DatsS.mv s h2⟩
 | .tuple _,_,h=>by
  simp only[DatS]at h |-;obtain⟨a,xs,e,h1,h2⟩:=h;exact⟨a,xs,e,s.1 _ _ h1,DatsS.mv s h2⟩
 | .dict _,_,h=>by
  simp only[DatS]at h |-;obtain⟨a,xs,e,h0,h1,h2⟩:=h;exact⟨a,xs,e,h0,DctAt.mv s h1,DctS.mv s h2⟩
theorem DatsS.mv{S:Addr->Prop}{H H':Hp}(s:Mv H H'):∀{ds:List PyData} {xs:List V},DatsS S H ds xs->DatsS S H' ds xs
 | [],_,h=>by simp only[DatsS]at h |-;exact h
 | _::_,_,h=>by
  simp only[DatsS]at h |-;obtain⟨x,r,e,h1,h2⟩:=h;exact⟨x,r,e,DatS.mv s h1,DatsS.mv s h2⟩
theorem DctS.mv{S:Addr->Prop}{H H':Hp}(s:Mv H H'):∀{ds:List (PyData×PyData)} {xs:List (PyData×V)},DctS S H ds xs->DctS S H' ds xs
 | [],_,h=>by simp only[DctS]at h |-;exact h
 | (_,_)::_,_,h=>by
  simp only[DctS]at h |-;obtain⟨x,r,e,h1,h2⟩:=h;exact⟨x,r,e,DatS.mv s h1,DctS.mv s h2⟩
end
theorem Dat1.mv{T S:Addr->Prop}{H H':Hp}(s:Mv H H'){d:PyData}{v:V}(h:Dat1 T S H d v):Dat1 T S H' d v:=by
 cases d<;>simp only[Dat1]at h |-
 case list=>obtain⟨b,xs,e,h0,h1,h2⟩:=h;exact⟨b,xs,e,h0,s.2.1 _ _ h1,DatsS.mv s h2⟩
 case dict=>obtain⟨b,xs,e,h0,h1,h2⟩:=h;exact⟨b,xs,e,h0,h1.mv s,DctS.mv s h2⟩
 all_goals exact DatS.mv s h
theorem Dp.mv{g:Gh}{ow:Ix->Option Addr}{H H':Hp}{i:Nat}{kls:List (PyData×List PyData)}{v:V}(s:Mv H H')(h:Dp g ow H i kls v):Dp g ow H' i kls v:=by
 obtain⟨a,ks,e,e0,hd,hl,hk⟩:=h;refine⟨a,ks,e,e0,hd.mv s,hl,fun j k l ej=>?_⟩;obtain⟨b,xs,q1,q2,q3,q4⟩:=hk j k l ej;exact⟨b,xs,q1,q2,s.2.1 _ _ q3,DatsS.mv s q4⟩
noncomputable def Gh.fz(g:Gh)(a:Addr)(o:Obj)(u:HO):Gh:=⟨g.aS,g.ns,g.aT,g.S0,fun b=>if b=a then(match g.H0 a with | none=>none | some _=>some (.frz o u))else g.H0 b⟩
theorem Gh.fz_ne{g:Gh}{a b:Addr}{o:Obj}{u:HO}(h:b≠a):(g.fz a o u).H0 b=g.H0 b:=by unfold Gh.fz;exact if_neg h
theorem Gh.fz_none{g:Gh}{a:Addr}{o:Obj}{u:HO}(h:g.H0 a=none):(g.fz a o u).H0 a=none:=by
 unfold Gh.fz;show(if a=a then _ else _)=_;rw[if_pos rfl,h]
theorem Gh.fz_some{g:Gh}{a:Addr}{o:Obj}{u w:HO}(h:g.H0 a=some w):(g.fz a o u).H0 a=some (.frz o u):=by
 unfold Gh.fz;show(if a=a then _ else _)=_;rw[if_pos rfl,h]
section
variable{K:W.Frag}{g:Gh}{ow:Ix->Option Addr}{ρ:Env'}{n n':Nat}{σ:St}{H H':Hp}{a:Addr}{o:Obj}{u:HO}
theorem Frm.fz(f:Frm K g ow ρ n σ H)(e:H a=some u)(hd:wI u)(hS:¬g.S ow a):Frm K (g.fz a o u) ow ρ n σ (upd H a (.frz o u)):=by
 have m:Mv H (upd H a (.frz o u)):=z84 e hd;have hT:g.aT≠some a:=fun z=>hS (.inr (.inl z));have h0:∀w,g.H0 a=some w->w=u:=fun w q=>by
  have:=f.ext a w q (.inl hT);rw[e]at this;cases this;rfl
 refine⟨?_,fun b q=>m.2.1 _ _ (f.twn b q),fun b q=>?_,fun b w q k=>?_,fun i d q=>?_,fun i x q=>?_,fun i kl q=>?_,fun i b q=>?_,f.inj,f.len⟩
 ·rcases f.scr with h | ⟨h1,h2⟩
  ·exact .inl h
  ·refine .inr ⟨h1,?_⟩;show SqL K (g.fz a o u).H0 g.aS _;rcases h2 with h | h
   ·have hb:g.aS≠a:=fun z=>by
     rcases h with h | ⟨ob,h⟩
     ·rw[z]at h;have:=h0 _ h;rw[<-this]at hd;exact hd
     ·rw[z]at h;have:=h0 _ h;rw[<-this]at hd;exact hd
    rcases h with h | ⟨ob,h⟩
    ·exact .inl (.inl (by rw[Gh.fz_ne hb];exact h))
    ·exact .inl (.inr ⟨ob,by rw[Gh.fz_ne hb];exact h⟩)
   ·exact .inr h
 ·by_cases hb:b=a
  ·subst hb;cases z:g.H0 b with
   | none=>exact absurd z (f.sub b q)
   | some w=>rw[Gh.fz_some z];intro z;cases z
  ·rw[Gh.fz_ne hb];exact f.sub b q
 ·by_cases hb:b=a
  ·subst hb;cases z:g.H0 b with
   | none=>rw[Gh.fz_none z]at q;cases q
   | some w'=>rw[Gh.fz_some z]at q;cases q;exact z6
  ·rw[Gh.fz_ne hb]at q;rw[z9 hb];exact f.ext b w q k
 ·obtain⟨v,e1,r⟩:=f.val i d q;refine⟨v,e1,?_⟩;cases d with
  | p x=>exact DatS.mv m r
  | scr=>exact r
  | town=>exact r
  | fn=>exact r
  | exc b C=>exact⟨r.1,r.2.1,by rw[z9 (fun z=>by have k:=r.2.2;subst z;rw[e]at k;cases k;exact hd)];exact r.2.2⟩
 ·obtain⟨b,e1,e2,r⟩:=f.own i x q;exact⟨b,e1,e2,Dat1.mv m r⟩
 ·obtain⟨v,e1,r⟩:=f.dp i kl q;exact⟨v,e1,Dp.mv m r⟩
 ·obtain⟨q1,⟨w,q2,q3⟩,q4,q5⟩:=f.owi i b q;have hb:b≠a:=fun z=>hS (.inr (.inr ⟨i,z▸q⟩));exact⟨by rw[Gh.fz_ne hb];exact q1,⟨w,by rw[z9 hb];exact q2,q3⟩,q4,q5⟩
theorem z8e{T:Addr->Prop}(e:H a=some u)(hd:wI u)(hT:¬T a)(k:Kp T (upd H a (.frz o u)) H'):H' a=some (.frz o u)/\Kp T H (upd H' a u):=by
 have h1:H' a=some (.frz o u):=k _ _ z6 (.inl hT);refine⟨h1,fun b w q z=>?_⟩;by_cases hb:b=a
 ·subst hb;rw[e]at q;cases q;exact z6
 ·rw[z9 hb];exact k _ _ (by rw[z9 hb];exact q) z
end
end L2
namespace L2
open PySem PySem.Spec PyProof.Rows
noncomputable def Itk(a:Addr)(o:Obj)(u:HO)(xs:List V):It:=
 ⟨fun i H=>H a=some (.frz o u)/\i<xs.length,fun i H x H'=>H'=H/\(i<xs.length->xs[i]?=some x),fun i H=>H a=some (.frz o u)/\xs.length<=i⟩
theorem z5z{P:Program}{w:World}{K:W.Frag}{tg:Expr}{a it:Addr}{o:Obj}{u:HO}{xs:List V}{es:Array DictEntry}{ep:Nat}(hx:o.ExactDict)(hd:o.data=.dict es ep)(rv:Vals xs (es.toList.map (·.key))):
  Turn P w K tg (Itk a o u xs) [it] it (fun i h=>h.IsKeyIter it a i es.size ep/\i<=es.size) where
 mem:=by simp
 obj:=fun i h st b hb=>by
  have e:b=it:=by simpa using hb
  subst e;obtain⟨⟨o,e,c,d⟩,_⟩:=st;exact⟨o,e,fun v z=>by rw[d]at z;cases z⟩
 keep:=fun i h h' st k=>⟨st.1.at fun o e=>k it (by simp) o e,st.2⟩
 item:=by
  intro X hP hw hK hc i pins s σ H E I hf st hg;subst hP hw hK;obtain⟨hfz,hlt⟩:=hg;have hl:xs.length=es.size:=by
   have:=rv.length;simpa using this
  have hi:i<es.size:=hl▸hlt;have ho:s.heap.get? a=some o:=(show ObjOk X.prog X.w H s.heap a (.frz o u) from I.hok a _ hfz).1;obtain⟨f0,f1,f2,f3,f4,f5⟩:=hf it (by simp);obtain⟨v,hv,ru⟩:=rv.get (i:=i) (x:=xs[i]) (List.getElem?_eq_getElem hlt);have ev:v=es[i].key:=by
   rw[List.getElem?_map,Array.getElem?_toList,Array.getElem?_eq_getElem hi]at hv;cases hv;rfl
  subst ev;refine z4N st.1 ⟨o,ho,hx,hd⟩ hi fun h' st' sb=>?_;have I1:Inv X pins σ H { s with heap:=h' }:=I.turned (t':=s.toks) (fun b o hb e=>(sb.2 b hb).trans e) f0 f1 f3 f4 f5;obtain⟨o',e,c,d⟩:=id st';exact⟨_,rfl,z5I (s:={ s with heap:=h' }) e c d (by decide) ⟨xs[i],H,I1,ru,⟨rfl,fun _=>List.getElem?_eq_getElem hlt⟩,⟨st',hi⟩,fun b hb=>(hf b hb).1⟩⟩
 done:=by
  intro X hP hw hK hc i pins s σ H E I hf st hg;subst hP hw hK;obtain⟨hfz,hge⟩:=hg;have hl:xs.length=es.size:=by
   have:=rv.length;simpa using this
  obtain⟨st,hle⟩:=st;obtain rfl:i=es.size:=Nat.le_antisymm hle (hl▸hge);have ho:s.heap.get? a=some o:=(show ObjOk X.prog X.w H s.heap a (.frz o u) from I.hok a _ hfz).1;obtain⟨f0,f1,f2,f3,f4,f5⟩:=hf it (by simp);exact z65 (I.ok.hd hc) st ⟨o,ho,hx,hd⟩ fun h' eb=>⟨rfl,I.turned (t':=s.toks) (fun b o hb e=>eb b o hb e) f0 f1 f3 f4 f5⟩
 self:=fun _ _ _ _ _ st h=>wpAny_pyIter_keyiter st.1 h
section
variable{X:Cx}{tg:Expr}
theorem z6Z{l:Expr}{tl:TE}(hl:PE X l tl):PI X tg l (fun σ H R=>tl σ H fun x H1=>∃(a:Addr) (u:HO) (S:Addr->Prop) (kvs:List (PyData×PyData)) (ks:List (PyData×V)),x=.ref a/\Rd H1 a u/\wI u/\DctAt H1 a ks/\DctS S H1 kvs ks/\
  ∀o xs,DatsS S H1 (kvs.map (·.1)) xs->(H1 a=some u->R (Itk a o u xs) (upd H1 a (.frz o u)))/\(H1 a=some (.frz o u)->R (Itk a o u xs) H1)):=by
 intro pins s σ H R I h;refine thn (hl pins s σ H _ I h) fun v s1 ⟨x,H1,I1,r1,q1⟩=>?_;obtain⟨a,u,S,kvs,ks,e,hu,hdu,hk,hd,q⟩:=q1;subst e;cases r1;obtain⟨es,ep,xs,⟨o,ho,hx,hdat⟩,hsys,hz,rv,dv⟩:=z3D (S:=S) I1 hk hd;have go:∀H2,Inv X pins σ H2 s1->R (Itk a o u xs) H2->wpAny (model X.prog X.w) X.A (pyIter (.ref a)) (PIE X pins σ tg R) X.xe s1:=fun H2 I2 q2=>by
  have fp:∀b∈[s1.heap.objs.size],FpOk X pins H2 b:=fun b hb=>by
   have e:b=s1.heap.objs.size:=by simpa using hb
   subst e;exact I2.fpOk (Nat.le_refl _) (I2.hok.fresh (Nat.le_refl _))
  refine z7p hsys ⟨o,ho,hx,hdat⟩ ?_;exact⟨s1.heap.objs.size,[s1.heap.objs.size],_,_,_,rfl,I2.kept (t':=s1.toks) fun b o e=>Heap.get?_push_of_some _ e,z5z hx hdat rv,⟨⟨_,Heap.get?_push_size _ rfl,rfl,rfl⟩,Nat.zero_le _⟩,fp,q2⟩
 rcases hu with hu | ⟨o2,hu⟩
 ·obtain⟨o2,ho2,I2⟩:=Inv.freeze I1 hu hdu;rw[ho]at ho2;cases ho2;exact go _ I2 ((q o xs dv).1 hu)
 ·have ho2:s1.heap.get? a=some o2:=(show ObjOk X.prog X.w H1 s1.heap a (.frz o2 u) from I1.hok a _ hu).1;rw[ho]at ho2;cases ho2;exact go _ I1 ((q o xs dv).2 hu)
end
section
variable{K:W.Frag}{Er:Str->Hp->Prop}{X:Cx}{e a b c tg it elt:Expr}{m ma mb:Env'->Mx D}{mc mt:Env'->Mx Bool}{pos p2:Pos}
theorem z2Q{tc:TT}{σ:St}{Q:VK}{g:Gh}{ow:Ix->Option Addr}{ρ:Env'}{n:Nat}{H1:Hp}{ds:List PyData}{xs:List V}{J:It}(htc:∀σ H Q,rdG RT K Er mc σ H Q->tc σ H Q)(fr:Frm K g ow ρ n σ H1)(hl:ds.length<=lim)(hd:DatsS (g.S ow) H1 ds xs)(wk:Walks g.T H1 J xs)
  (q:AftG (fun _ H2 x v=>RF g (g.S ow) H1 H2 x v) g Er H1 ((zS mc m ρ ds [] >>= fun l=>pure (PyData.list l)) n) Q):∃(n:Nat) (W:Nat->List V->Hp->Prop),W 0 [] H1/\CompW J σ tc (rdG RE K Er m) n W/\∀ys H',W n ys H'->∀D,H' D=none->Q (.ref D) (upd H' D (.lst ys)):=by
 have hlen:=hd.length;refine⟨xs.length,fun i ys H'=>∃acc n',Kp g.T H1 H'/\Twn g H' n'/\DatsS (g.S ow) H' acc ys/\AftG (fun _ H2 x v=>RF g (g.S ow) H1 H2 x v) g Er H' ((zS mc m ρ (ds.drop i) acc >>= fun l=>pure (PyData.list l)) n') Q,
  ⟨[],n,Kp.refl _ _,fr.twn,.nil,by rw[List.drop_zero];exact q.imp (fun _ _ _ z=>z) fun _ _ z=>z⟩,⟨y3 (by rw[<-hlen];exact hl),fun ys H' ⟨_,_,k,_⟩=>wk.stop H' k,fun i ys H' hi ⟨_,_,k,_⟩=>wk.go i H' k hi,fun i ys H' v H'' hi ⟨acc,n',k,t,dd,q⟩ y=>?_⟩,fun ys H' ⟨acc,n',k,t,dd,q⟩ D hD=>?_⟩
 ·obtain⟨rfl,hv⟩:=wk.yld i H' v _ k y;have hv:=hv hi;have hid:i<ds.length:=by omega
  obtain⟨v',ev,rv⟩:=hd.get (List.getElem?_eq_getElem hid);rw[hv]at ev;cases ev;have rv':Rep g (g.S ow) H'' (.p ds[i]) v:=DatS.kp (k.mono Gh.ts) (fun _ z=>.inl z) rv;have f1:Frm K g ow (ρ++[some (Sl.val (.p ds[i]))]) n' (σ++[some v]) H'':=(fr.kp k t).ext1 rv';rw[List.drop_eq_getElem_cons hid]at q;simp only[zS,yP]at q;refine htc _ _ _ ⟨g,ow,_,n',f1,AftG.bind q fun tb n2 tb' H3 k3 t3 r3 c3=>?_⟩;cases r3;have q3:=c3 (R3:=fun _ H2 x v=>RF g (g.S ow) H1 H2 x v) fun _ _ _ z=>z;cases tb with
  | false=>
   refine ite_ff ⟨acc,n2,k.trans k3,t3,DatsS.kp (k3.mono Gh.ts) (fun _ z=>.inl z) dd,?_⟩;simpa using q3
  | true=>
   simp only[if_true,yP]at q3;refine ite_tt ⟨g,ow,_,n2,f1.kp k3 t3,AftG.bind q3 fun yv n4 yv' H4 k4 t4 r4 c4=>?_⟩;have q4:=c4 (R3:=fun _ H2 x v=>RF g (g.S ow) H1 H2 x v) fun _ _ _ z=>z;obtain⟨z,ez,q5⟩:=yk q4;obtain⟨z',rfl,ez2⟩:=zc ez;cases ez2;exact⟨acc++[z],n4,(k.trans k3).trans k4,t4,(DatsS.kp ((k3.trans k4).mono Gh.ts) (fun _ z=>.inl z) dd).append (.cons r4 .nil),q5⟩
 ·rw[List.drop_of_length_le (by omega)]at q;have q:AftG (fun _ H2 x v=>RF g (g.S ow) H1 H2 x v) g Er H' (.ok (.list acc) n') Q:=q;refine q (.ref D) _ (Same.new hD).kp ((Same.new hD).twn t) ⟨D,rfl,xj k t hD,Pl.upd,?_⟩;simp only[Dat1];exact⟨D,ys,rfl,id,z6,DatsS.kp (Kp.of (Same.new hD)) (fun b z=>z.elim .inl fun e=>.inr (e▸hD)) dd⟩
noncomputable def z5k:PyData->Option (List PyData)
 | .dict kvs=>if kvs.length<=lim then some (kvs.map (·.1))else none
 | _=>none
noncomputable def Mx.sure{α:Type}(m:Mx α):Mx α:=fun n=>match m n with
 | .ok a n'=>.ok a n'
 | _=>.bad
noncomputable def xM(mk:Env'->Mx D)(mc:Env'->Mx Bool)(me:Env'->Mx D):Env'->Mx PyData:=fun ρ=>mk ρ >>= fun d=>Mx.opt (onP z5k d) >>= fun ds=>(zS mc me ρ ds []).sure >>= fun l=>pure (.list l)
theorem z1C{S:Addr->Prop}{H:Hp}{a:Addr}{o:Obj}{u:HO}{xs:List V}(h:H a=some (.frz o u))(hS:¬S a):Walks S H (Itk a o u xs) xs:=
 ⟨fun i H' k hi=>⟨k _ _ h (.inl hS),hi⟩,fun i H' x H'' k y=>y,fun H' k=>⟨k _ _ h (.inl hS),Nat.le_refl _⟩⟩
noncomputable abbrev piK(K:W.Frag)(Er:Str->Hp->Prop)(mk:Env'->Mx D):TI:=fun σ H R=>rdG RE K Er mk σ H fun x H1=>∃(a:Addr) (u:HO) (S:Addr->Prop) (kvs:List (PyData×PyData)) (ks:List (PyData×V)),x=.ref a/\Rd H1 a u/\wI u/\DctAt H1 a ks/\DctS S H1 kvs ks/\
  ∀o xs,DatsS S H1 (kvs.map (·.1)) xs->(H1 a=some u->R (Itk a o u xs) (upd H1 a (.frz o u)))/\(H1 a=some (.frz o u)->R (Itk a o u xs) H1)
theorem z3Y{mk:Env'->Mx D}{tc:TT}{σ:St}{H:Hp}{Q:VK}(htc:∀σ H Q,rdG RT K Er mc σ H Q->tc σ H Q)(h:rdG RF K Er (xM mk mc m) σ H Q):z41 (piK K Er mk) tc (rdG RE K Er m) σ H (fun x H1=>Thw H (Q x) H1):=by
 obtain⟨g,ow,ρ,n,fr0,q0⟩:=h;refine⟨g,ow,ρ,n,fr0,?_⟩;refine AftG.bind q0 fun d n1 v H1 k01 t1 r c1=>?_;have q:=c1 (R3:=RF g (g.S ow)) fun H2 b u r=>xu _ _ _ _ _ _ _ _ k01 t1 r;have fr:=fr0.kp k01 t1;obtain⟨ds,e,q2⟩:=yk q;obtain⟨x,rfl,e1⟩:=zc e;cases x<;>simp only[z5k]at e1<;>try (cases e1;done)
 rename_i kvs
 split at e1
 next hl=>
  cases e1;obtain⟨a,ks,rfl,hn,h1,h2⟩:=(show ∃a ks,v=.ref a/\¬(g.S ow) a/\DctAt H1 a ks/\DctS (g.S ow) H1 kvs ks by simpa only[Rep,DatS]using r);have hT:¬g.T a:=fun z=>hn (.inr (.inl z));obtain⟨u,hu,hdu⟩:∃u,Rd H1 a u/\wI u:=by
   rcases h1 with ⟨l,h,_⟩ | ⟨l,h,_⟩
   ·exact⟨_,h,True.intro⟩
   ·exact⟨_,h,True.intro⟩
  have hl':(kvs.map (·.1)).length<=lim:=by rw[List.length_map];exact hl
  have q3:∀l n2,zS mc m ρ (kvs.map (·.1)) [] n1=.ok l n2->∀v H',Kp g.T H1 H'->Twn g H' n2->RF g (g.S ow) H1 H' (.list l) v->Q v H':=fun l n2 ez=>by
   have q2:AftG (RF g (g.S ow)) g Er H1 (((zS mc m ρ (kvs.map (·.1)) []).sure >>= fun l=>pure (PyData.list l)) n1) Q:=q2;rw[Mx.bind_def,show(zS mc m ρ (kvs.map (·.1)) []).sure n1=.ok l n2 by unfold Mx.sure;rw[ez]]at q2;exact q2
  have q4:∃l n2,zS mc m ρ (kvs.map (·.1)) [] n1=.ok l n2:=by
   have q2:AftG (RF g (g.S ow)) g Er H1 (((zS mc m ρ (kvs.map (·.1)) []).sure >>= fun l=>pure (PyData.list l)) n1) Q:=q2;rw[Mx.bind_def]at q2;unfold Mx.sure at q2;cases ez:zS mc m ρ (kvs.map (·.1)) [] n1 with
   | ok l n2=>exact⟨l,n2,rfl⟩
   | err c n2=>rw[ez]at q2;exact q2.elim
   | bad=>rw[ez]at q2;exact q2.elim
  obtain⟨l,n2,ez⟩:=q4;have q5:=q3 l n2 ez;have run:((zS mc m ρ (kvs.map (·.1)) [] >>= fun l=>pure (PyData.list l)) n1)=.ok (.list l) n2:=by rw[Mx.bind_def,ez];rfl
  refine⟨a,u,g.S ow,kvs,ks,rfl,hu,hdu,h1,h2,fun o xs dv=>⟨fun hp=>?_,fun hf=>?_⟩⟩
  ·have f2:=fr.fz (o:=o) hp hdu hn;refine z2Q (m:=m) (Q:=fun x H1=>Thw H (Q x) H1) (g:=g.fz a o u) htc f2 hl' (DatsS.mv (z84 hp hdu) dv) (z1C z6 hT) ?_;rw[run];intro v H' k t r;obtain⟨e1,k1⟩:=z8e hp hdu hT (T:=g.T) k;have h0:∀o u,H a≠some (.frz o u):=fun o' u' z=>by
    have:=k01 _ _ z (.inl hT);rw[hp]at this;cases this;exact hdu
   refine .inr ⟨a,o,u,h0,e1,q5 v _ k1 (fun b eb=>(z8L e1).2.1 _ _ (t b eb)) ?_⟩;obtain⟨D,rfl,hD,⟨w,hw,hnf⟩,dd⟩:=r;have hDa:D≠a:=fun z=>by subst z;rw[z6]at hD;cases hD
   exact⟨D,rfl,by rw[z9 hDa]at hD;exact hD,⟨w,by rw[z9 hDa];exact hw,hnf⟩,Dat1.mv (z8L e1) dd⟩
  ·refine z2Q (m:=m) (Q:=fun x H1=>Thw H (Q x) H1) htc fr hl' dv (z1C hf hT) ?_;rw[run];intro v H' k t r;exact .inl (q5 v H' k t r)
 next=>cases e1
theorem wR{mk:Env'->Mx D}{N N':List Str}{sc scope:Scope}{x:Str}{ifs:List Expr}{px:Pos}{tc:TT}(hc:X.calm=true)(hN:X.N=N)(hsc:X.env.scope=sc)(h:wf N sc scope x N'=true)(htc:∀σ H Q,rdG RT K Er mc σ H Q->tc σ H Q)
  (hi:DE K Er X it mk) (hf:∀C s H fp,PF (zO X scope N' C s H fp) ifs tc) (he:∀C s H fp,DE K Er (zO X scope N' C s H fp) elt m)
  (hs:∀x,foldedSetIterable it X.env x=pure x:=by intro _;rfl):DF K Er X (.ListComp elt [⟨.Name x px,it,ifs,0⟩] scope pos) (xM mk mc m):=(z7A (z3L hc hN hsc h (z6Z hi) hf he hs)).imp fun σ H Q h=>z3Y htc h
end
section
variable{K:W.Frag}{Er:Str->Hp->Prop}{X:Cx}{e a' b c tg it elt:Expr}{m ma mb:Env'->Mx D}{mc mt:Env'->Mx Bool}{sa:Env'->Mx Out}{pos p2:Pos}{sts:List Stmt}
variable{g:Gh}{ow ow':Ix->Option Addr}{ρ ρ':Env'}{n n':Nat}{σ σ':St}{H H' H1:Hp}{a:Addr}{o:Obj}{u:HO}
end
section
variable{prog:Program}{w:World}{A:Around}{E:Value->Shared->Prop}{s:Shared}
end
section
variable{X:Cx}{pins:List (Addr×Obj)}{σ:St}{H:Hp}{s:Shared}{a:Addr}
end
section
variable{X:Cx}{a b:Expr}{ta:TA}{p pos tp:Pos}{elts:List Expr}
end
section
variable{K:W.Frag}{Er:Str->Hp->Prop}{X:Cx}{a b:Expr}{ms:Env'->Mx (List D)}{sa:Env'->Mx Out}{pos p2 p3 tp:Pos}{sts elts:List Stmt}
variable{σ:St}{H:Hp}
end
open PySem
section
variable{K:W.Frag}{Er:Str->Hp->Prop}{X:Cx}{mi:Env'->Mx (List PyData)}{ms:Env'->Mx (List D)}{mc:Env'->Mx Bool}{m:Env'->Mx D}
variable{elt it tg:Expr}{pos:Pos}
end
end L2
namespace PySem
namespace F
theorem lk_list_keys:typeLookup (.type "list") "keys"=pure none:=by rw[typeLookup_type,builtinLookup_eq_fast];kernel_rfl
theorem lk_list_getattr:typeLookup (.type "list") "__getattr__"=pure none:=by rw[typeLookup_type,builtinLookup_eq_fast];kernel_rfl
theorem sub_attrErr:isSubtype (.type "AttributeError") (.type "AttributeError")=pure true:=by rw[isSubtype_type];kernel_rfl
theorem entry_dict_update_loop:entryFor table "dict.update.loop"=some Builtin.«dict.update.loop»:=entryFor_of_tree (by kernel_rfl)
theorem plain_dict_update_loop:plainId "dict.update.loop"=true:=by decide +kernel
end F
section
variable{prog:Program}{w:World}{A:Around}{E:Value->Shared->Prop}{h:Heap}{g:Array GenState}{d:Drawn}{t:Nat}{os:OsState}{a:Addr}{o:Obj}
theorem z3C{α:Type}{name msg:Str}{Q:α->Shared->Prop}(hh:A.handled=none)(hm:msg.length<=sizeLine)(hq:∀e h' t',(∃oe,h'.get? e=some oe/\oe.cls=.type "AttributeError")->(∀b ob,h.get? b=some ob->h'.get? b=some ob)->E (.ref e) ⟨h',g,d,t',os⟩):
  wpAny (model prog w) A (raiseAttrError (.ref a) name msg) Q E ⟨h,g,d,t,os⟩:=by
 have hs:=F.sub_attrErr;have hfa:∀v,firstArgMember (.type "AttributeError") [v]=pure .none:=fun v=>by unfold firstArgMember;kernel_rfl
 unfold raiseAttrError newExc;refine wpAny_bind ?_;unfold mkStr;rw[if_neg (by omega)]
 repeat (any_goals (first | assumption | wp_step))
 refine wpAny_raiseNew_none hh (hq _ _ _ ⟨_,Heap.get?_update_self _ (Heap.get?_push_size _ rfl) rfl,rfl⟩ fun b ob e=>?_);have hb:=Heap.lt_size e;have hne:(h.push { cls:=Value.type "tuple",data:=Data.seq #[Value.str msg t] }).objs.size≠b:=by rw[Heap.size_push];exact Nat.ne_of_gt (Nat.lt_succ_of_lt hb)
 rw[Heap.get?_update_other _ _ hne];exact Heap.get?_push_of_some _ (Heap.get?_push_of_some _ e)
theorem z6d:(Str.ofString (toString "'"++toString ((Manifest.find? "list").elim "list" fun x=>x.tpName)++toString "' object has no attribute '")++Str.ofString "keys"++Str.ofString "'").length<=sizeLine:=by
 rw[sizeLine_eq];decide +kernel
theorem z2w{its:Array Value}{n:Nat}{tk:Tok}{Q:Fin->Shared->Prop}(hh:A.handled=none)(hx:h.get? a=some { cls:=.type "list",data:=.seq its n })(hq:∀e h' t',(∃oe,h'.get? e=some oe/\oe.cls=.type "AttributeError")->(∀b ob,h.get? b=some ob->h'.get? b=some ob)->E (.ref e) ⟨h',g,d,t',os⟩):
  wpAny (model prog w) A (Builtin.«object.__getattribute__» ⟨[.ref a,.str "keys" tk],[]⟩) Q E ⟨h,g,d,t,os⟩:=by
 have hT:(⟨h,g,d,t,os⟩:Shared).TypeIs (.ref a) "list":=⟨_,hx,rfl⟩;have f4:=F.lk_list_keys
 repeat (any_goals (first | assumption | wp_step))
 exact z3C hh z6d hq
theorem z3E{its:Array Value}{n:Nat}{tk:Tok}{R:Result->Shared->Prop}(hh:A.handled=none)(hx:h.get? a=some { cls:=.type "list",data:=.seq its n })(hq:∀e h' t',(∃oe,h'.get? e=some oe/\oe.cls=.type "AttributeError")->(∀b ob,h.get? b=some ob->h'.get? b=some ob)->R (.error (.ref e)) ⟨h',g,d,t',os⟩):
  codeAny (model prog w) A (.call (.builtin "list.__getattribute__") ⟨[.ref a,.str "keys" tk],[]⟩) R ⟨h,g,d,t,os⟩:=
 codeAny_call_builtin F.slot_list_getattribute.plain F.entry_list_ga (F.slot_list_getattribute.check _ _ _ _ _ _ _ _ (show(⟨h,g,d,t,os⟩:Shared).TypeIs (.ref a) "list" from⟨_,hx,rfl⟩) (F.args_list_getattribute_2 _ _) (z2w (by simp[hh]) hx hq))
theorem z6Q{its:Array Value}{n:Nat}{tk:Tok}{Q:Value->Shared->Prop}(hh:A.handled=none)(hx:h.get? a=some { cls:=.type "list",data:=.seq its n })(hq:∀e h' t',(∃oe,h'.get? e=some oe/\oe.cls=.type "AttributeError")->(∀b ob,h.get? b=some ob->h'.get? b=some ob)->E (.ref e) ⟨h',g,d,t',os⟩):wpAny (model prog w) A (getAttrBy (.ref a) (.str "keys" tk) false) Q E ⟨h,g,d,t,os⟩:=by
 have hT:(⟨h,g,d,t,os⟩:Shared).TypeIs (.ref a) "list":=⟨_,hx,rfl⟩;have f2:=F.slot_list_getattribute.lookup;have f3:=F.slot_list_getattribute.bind (.ref a);have f4:=F.lk_list_getattr
 repeat (any_goals (first | assumption | wp_step))
 refine z3E hh hx fun e h' t' ⟨oe,ho,hc⟩ hk=>?_;show wpAny (model prog w) A (getattributeRaised (Value.ref a) (Value.str (Str.ofString "keys") tk) (Value.type "list") (.ref e) none false false) Q E _;have hTe:(⟨h',g,d,t',os⟩:Shared).TypeIs (.ref e) "AttributeError":=⟨_,ho,hc⟩;have hs:=F.sub_attrErr;have hE:=hq e h' t' ⟨oe,ho,hc⟩ hk;unfold getattributeRaised
 repeat (any_goals (first | assumption | wp_step))
theorem miss_attr{its:Array Value}{n:Nat}{Q:Option Value->Shared->Prop}(hh:A.handled=none)(hx:h.get? a=some { cls:=.type "list",data:=.seq its n })(hq:∀h' t',(∀b ob,h.get? b=some ob->h'.get? b=some ob)->Q none ⟨h',g,d,t',os⟩):wpAny (model prog w) A (getAttr? (.ref a) "keys") Q E ⟨h,g,d,t,os⟩:=by
 unfold getAttr? getAttrBy?
 repeat (any_goals (first | assumption | with_reducible apply z6Q hh hx | wp_step))
 rintro e h' t' ⟨oe,ho,hc⟩ hk;have hTe:(⟨h',g,d,t',os⟩:Shared).TypeIs (.ref e) "AttributeError":=⟨_,ho,hc⟩;have hs:=F.sub_attrErr;have hE:=hq h' t' hk;show wpAny (model prog w) A (isInstance (.ref e) (Value.type "AttributeError") >>= _) Q E _
 repeat (any_goals (first | assumption | wp_step))
end
end PySem
namespace L2
open PySem PySem.Spec PyProof.Rows
noncomputable def Puts(p:Addr):List (V×V)->Hp->Hp->Prop
 | [],H,H'=>H'=H
 | q::r,H,H'=>∃H1,DPutR H p q.1 q.2 H1/\Puts p r H1 H'
section
variable{X:Cx}{pins:List (Addr×Obj)}{σ:St}{H:Hp}{s:Shared}{a:Addr}{y v:V}{u r:Value}{A:Around}{E:Value->Shared->Prop}
theorem DPutR.ne{H':Hp}(g:DPutR H a y v H'):∃o,H'=upd H a o/\wI o/\∃q,H a=some q/\wI q:=by
 rcases g with (⟨kvs,k,e,ey,l,rfl⟩ | ⟨kvs,k,b,e,ey,eb,l,rfl⟩) | ⟨k,b,e,ey,hb,rfl⟩ | ⟨k,e,ey,rfl⟩
 ·exact⟨_,rfl,True.intro,_,e,True.intro⟩
 ·exact⟨_,rfl,True.intro,_,e,True.intro⟩
 ·exact⟨_,rfl,True.intro,_,e,True.intro⟩
 ·exact⟨_,rfl,True.intro,_,e,True.intro⟩
theorem z34{H':Hp}{Q:Unit->Shared->Prop}(hu:A.units<cLine)(I:Inv X pins σ H s)(g:DPutR H a y v H')(ry:RelV y u)(rv:RelV v r)(h:∀h' t',Heap.SameBut a s.heap h'->Inv X pins σ H' { s with heap:=h',toks:=t' }->Q () { s with heap:=h',toks:=t' }):
  wpAny (model X.prog X.w) A (dictSet a u r) Q E s:=by
 have go:∀{H H':Hp},Inv X pins σ H s->DPut H a y v H'->(∀h' t',Heap.SameBut a s.heap h'->Inv X pins σ H' { s with heap:=h',toks:=t' }->Q () { s with heap:=h',toks:=t' })->wpAny (model X.prog X.w) A (dictSet a u r) Q E s:=by
  intro H H' I g h;rcases g with ⟨kvs,k,e,ey,l,eH⟩ | ⟨kvs,k,b,e,ey,eb,l,eH⟩
  ·subst ey eH;obtain⟨z,hd,vs,rel,dd⟩:=z5h I.hok e;have hz:vs.length<=sizeLine:=by rw[<-rel.length];exact z
   have hl:(putK kvs k v).length<=sizeLine:=by have:=ye kvs k v;omega
   refine wpAny_dictSet_pairs (hsz:=hz) (z1q ry) dd fun h' dd' hs=>h _ _ hs ?_;have he:∃q,h'.get? a=some q:=let⟨q,_,_,hq,_⟩:=dd';⟨q,hq⟩
   exact xx I (by rw[e];exact True.intro) hs he (z4z hl hd (rel.put k rv) dd')
  ·subst ey eH;cases(show u=Value.ref b from ry);obtain⟨z,hd,xs,rel,dd⟩:=z6p I.hok e;have hz:xs.length<=sizeLine:=by rw[<-Paired.length rel];exact z
   have hl:(putK kvs k v).length<=sizeLine:=by have:=ye kvs k v;omega
   refine wpAny_dictSet_heap (hsz:=hz) hu (wu I.hok eb) dd fun h' dd' hs=>h _ _ hs ?_;obtain⟨q,es,ep,hq,h2,h3,h4,_,h5⟩:=dd';refine xx I (by rw[e];exact True.intro) hs ⟨q,hq⟩ ⟨hl,hd,_,(rel.put k eb rv).keeps fun c ys ec=>?_,q,es,ep,hq,h2,h3,h4,h5⟩;rw[z9 (z4R ec e (fun z=>nomatch z))];exact ec
 rcases g with g | ⟨k,b,e,rfl,hb,rfl⟩ | ⟨k,e,rfl,rfl⟩
 ·exact go I g h
 ·have hba:b≠a:=z4R hb e (fun z=>nomatch z);refine go (I.relT e) (DPut.t (kvs:=[]) z6 (by rw[z9 hba];exact hb) (by show 0<sizeLine;rw[sizeLine_eq];decide)) fun h' t' hs I'=>h h' t' hs ?_;rw[wY]at I';exact I'
 ·refine go (I.relK e) (DPut.k (kvs:=[]) z6 (by show 0<sizeLine;rw[sizeLine_eq];decide)) fun h' t' hs I'=>h h' t' hs ?_;rw[wY]at I';exact I'
theorem z8s{l I p:Addr}{R:Result->Shared->Prop}(hh:A.in1.handled=none)(hu:A.in1.units<cLine)(hlI:l≠I):
  ∀(ps:List (V×V)) (i:Nat) (xs:List V) (s:Shared) (H H':Hp) (t:Tok),xs.length=i+ps.length->(∀j y v,ps[j]?=some (y,v)->∃b,xs[i+j]?=some (.ref b)/\H b=some (.tup [y,v]))->H l=some (.lst xs)->Inv X pins σ H s->FpOk X pins H I->s.heap.IsListIter I l i->Puts p ps H H'->
   (∀s',Inv X pins σ H' s'->R (.ok (.ret .none)) s')->codeAny (model X.prog X.w) A (.builtin "dict.update.loop" ⟨[.ref p,.ref I,.int (i:Int) t,.none],[]⟩) R s:=by
 intro ps
 induction ps with
 | nil=>
  intro i xs s H H' t hl hx hL I0 fp hit hP hR;obtain⟨its,rv,pl,hz⟩:=I0.list (SqL.of (K:=X.K) hL);have hlen:=rv.length;refine codeAny_builtin PySem.F.entry_dict_update_loop ?_;rw[Around.under_plainId PySem.F.plain_dict_update_loop _];show wpAny _ A.in1 (pyNext (.ref I) >>= _) _ _ s;obtain⟨f0,f1,f2,f3,f4,f5⟩:=fp;refine wpAny_bind (wpAny_pyNext_list_end hh hit pl.isList (by simp at hl |-;omega) fun h' eb=>?_);have I1:Inv X pins σ H { s with heap:=h' }:=I0.turned (t':=s.toks) (fun b o hb e=>eb b o hb e) f0 f1 f3 f4 f5;show wpAny _ A.in1 (Builtin.Dict.addKeywords p [] >>= fun _=>ret Value.none) _ _ _;refine wpAny_bind (wpAny_pure (wpAny_pure ?_));have e:H'=H:=hP;subst e;exact hR _ I1
 | cons q r ih=>
  intro i xs s H H' t hl hx hL I0 fp hit hP hR;obtain⟨y,v⟩:=q;obtain⟨H1,g,hP⟩:=hP;obtain⟨b,eb,hb⟩:=hx 0 y v rfl;obtain⟨its,rv,pl,hz⟩:=I0.list (SqL.of (K:=X.K) hL);have hlen:=rv.length;obtain⟨iv,ei,ri⟩:=rv.get (show xs[i]?=some (.ref b) by simpa using eb);cases ri;refine codeAny_builtin PySem.F.entry_dict_update_loop ?_;rw[Around.under_plainId PySem.F.plain_dict_update_loop _];show wpAny _ A.in1 (pyNext (.ref I) >>= _) _ _ s;obtain⟨f0,f1,f2,f3,f4,f5⟩:=id fp;refine wpAny_bind (wpAny_pyNext_list_item (x:=.ref b) hit pl.isList (by simpa using ei) fun h' hit' sb=>?_);have I1:Inv X pins σ H { s with heap:=h' }:=I0.turned (t':=s.toks) (fun c o hb e=>(sb.2 c hb).trans e) f0 f1 f3 f4 f5;obtain⟨its2,rt,pt,hz2⟩:=I1.tuple (SqT.of (K:=X.K) hb);obtain⟨uy,r2,rfl,ry,⟨uv,rfl,rvv⟩⟩:∃uy r2,its2=uy::r2/\RelV y uy/\∃uv,r2=[uv]/\RelV v uv:=by
   cases rt with
   | cons a1 a2=>
    cases a2 with
    | cons b1 b2=>cases b2;exact⟨_,_,rfl,a1,_,rfl,b1⟩
  refine wpAny_bind (wpAny_holding ?_);refine wpAny_bind (wpAny_tryCatch ?_);have hT:Shared.TypeIs { s with heap:=h' } (.ref b) "tuple":=by obtain⟨o,e,c,_⟩:=pt;exact⟨o,e,c⟩
  obtain⟨ot,hot,hct,n0,hdt⟩:=pt;obtain⟨oq,eH,hdo,oq0,eq0,hdq0⟩:=g.ne;have hpI:p≠I:=fun z=>by rw[z,f0]at eq0;cases eq0
  have hpl:p≠l:=fun z=>by rw[z,hL]at eq0;cases eq0;exact hdq0
  unfold Builtin.Dict.pairItems;refine wpAny_bind (wpAny_typeOf hT ?_);rw[if_pos (by decide)];refine wpAny_bind (wpAny_seqItems hot hdt ?_);refine wpAny_pure ?_;show wpAny _ A.in1 (holding [uy,uv] (dictSet p uy uv)) _ _ _;refine wpAny_holding (z34 hu I1 g ry rvv fun h2 t2 sb2 I2=>?_);refine wpAny_pure ⟨plainId_quiet PySem.F.plain_dict_update_loop _,?_⟩;have nt:∀{c:Addr} {w:HO},H c=some w->¬wI w->H1 c=some w:=fun{c w} e hn=>by
   rw[eH,z9 (fun z=>by rw[z,eq0]at e;cases e;exact hn hdq0)];exact e
  refine ih (i+1) xs _ H1 H' 0 (by simp at hl |-;omega) (fun j y' v' e=>?_) (nt hL id) I2 ⟨by rw[eH,z9 (Ne.symm hpI)];exact f0,f1,f2,f3,f4,f5⟩ ?_ hP hR
  ·obtain⟨c,ec,hc⟩:=hx (j+1) y' v' (by simpa using e);exact⟨c,by rw[show i+1+j=i+(j+1) by omega];exact ec,nt hc id⟩
  ·obtain⟨oi,e1,e2⟩:=hit';exact⟨oi,(sb2.2 I (Ne.symm hpI)).trans e1,e2⟩
theorem z22(hc:X.calm=true)(hu:X.A.units+64<cLine):CallR X (.type "dict") (fun zs H Q=>∃(l:Addr) (xs:List V),zs=[.ref l]/\H l=some (.lst xs)/\
  ∀p,H p=none->∃(ps:List (V×V)) (H':Hp),xs.length=ps.length/\(∀(j:Nat) (y v:V),ps[j]?=some (y,v)->∃b,xs[j]?=some (.ref b)/\H b=some (.tup [y,v]))/\Puts p ps (upd H p (.dK [])) H'/\Q (.ref p) H'):=by
 intro pins s σ H zs us Q I0 r h;obtain⟨l,xs,rfl,hL,q⟩:=h;obtain⟨u,rfl,ru⟩:=yq r;cases ru;have hn:=I0.hok.fresh (Nat.le_refl s.heap.objs.size);obtain⟨ps,H',hlen,hx,hP,q⟩:=q _ hn;have I1:=I0.laid (a:=s.heap.objs.size) (o:=.dK []) (h':=s.heap.push { cls:=.type "dict",data:=.dict #[] }) (t':=s.toks) (fun _ _ q=>Heap.get?_push_of_some _ q) (Nat.le_refl _) (z2I s.heap I0.big);refine callType_codes (Q₁:=fun obj s₁=>obj=.ref s.heap.objs.size/\s₁={ s with heap:=s.heap.push { cls:=.type "dict",data:=.dict #[] } }) PySem.F.kt_called_dict (PySem.F.kt_typeCall_dict_1 _) PySem.F.entry_dict_init (PySem.kt_code_dict_new _ ⟨rfl,rfl⟩) ?_;rintro obj s₁ ⟨rfl,rfl⟩;have hT:Shared.TypeIs { s with heap:=s.heap.push { cls:=.type "dict",data:=.dict #[] } } (.ref s.heap.objs.size) "dict":=⟨_,Heap.get?_push_size _ rfl,rfl⟩;refine⟨hT,PySem.F.args_dict_init_2 _ _,?_⟩;have hlp:l≠s.heap.objs.size:=fun z=>by rw[z,hn]at hL;cases hL
 have hL1:upd H s.heap.objs.size (.dK []) l=some (.lst xs):=by rw[z9 hlp];exact hL
 obtain⟨_,its,nn,rv,hol⟩:=(show ObjOk X.prog X.w _ _ l (.lst xs) from I1.hok l _ hL1);have hTl:Shared.TypeIs { s with heap:=s.heap.push { cls:=.type "dict",data:=.dict #[] } } (.ref l) "list":=⟨_,hol,rfl⟩;have hh:X.A.in1.in1.handled=none:=by have:=I0.ok.hd hc;simpa using this
 unfold Builtin.«dict.__init__»;refine wpAny_bind ?_;unfold Builtin.Dict.selfAndRest;refine wpAny_bind (wpAny_notOrdered_dict hT ?_);show wpAny _ _ (pure (s.heap.objs.size,[Value.ref l])) _ _ _;refine wpAny_pure ?_;show wpAny _ _ (Builtin.Dict.updateFrom "dict.__init__" s.heap.objs.size (.ref l) [] .none) _ _ _;unfold Builtin.Dict.updateFrom;refine wpAny_bind (wpAny_typeOf hTl ?_);rw[if_pos (by decide)];refine wpAny_bind (PySem.miss_attr hh hol fun h' t' hk=>?_);simp only[Option.isNone_none,if_true];have I2:Inv X pins σ (upd H s.heap.objs.size (.dK [])) { s with heap:=h',toks:=t' }:=I1.kept (t':=t') hk;refine wpAny_bind (wpAny_rule ?_);refine wpAny_bind (wpAny_pyIter_list ⟨_,hk _ _ hol,rfl,nn,rfl⟩ ?_);have I3:Inv X pins σ (upd H s.heap.objs.size (.dK [])) { s with heap:=h'.push { cls:=.type "list_iterator",data:=.fields #[.ref l,.int 0 0] },toks:=t' }:=I2.kept (t':=t') fun b o e=>Heap.get?_push_of_some _ e;have fr:upd H s.heap.objs.size (.dK []) h'.objs.size=none:=I2.hok.fresh (Nat.le_refl _);have fp:FpOk X pins (upd H s.heap.objs.size (.dK [])) h'.objs.size:=I2.fpOk (Nat.le_refl _) fr;have hlI:l≠h'.objs.size:=fun z=>by rw[z,fr]at hL1;cases hL1
 refine wpAny_pure ⟨plainId_quiet PySem.F.plain_dict_update_loop _,?_⟩;refine z8s (l:=l) (I:=h'.objs.size) (p:=s.heap.objs.size) (by simpa using I0.ok.hd hc) ?_ hlI ps 0 xs _ (upd H s.heap.objs.size (.dK [])) H' 0 (by omega) (fun j y v e=>?_) hL1 I3 fp ⟨_,Heap.get?_push_size _ rfl,rfl,rfl⟩ hP fun s' I'=>?_
 ·have:X.A.in1.in1.units=X.A.units+1+1:=rfl;omega
 ·obtain⟨b,e1,e2⟩:=hx j y v e;exact⟨b,by rw[Nat.zero_add];exact e1,by rw[z9 (fun z=>by rw[z,hn]at e2;cases e2)];exact e2⟩
 ·exact⟨rfl,.ref s.heap.objs.size,H',I',rfl,q⟩
end
noncomputable def wA:List PyData->List (PyData×PyData)->Option (List (PyData×PyData))
 | [],acc=>some acc
 | .tuple [k,v]::r,acc=>(putD acc k v).bind (wA r)
 | _,_=>none
noncomputable def mDictOf(m:Env'->Mx D):Env'->Mx PyData:=fun ρ=>m ρ >>= fun d=>Mx.opt (onP (fun x=>match x with | .list ds=>(wA ds []).map PyData.dict | _=>none) d)
section
variable{K:W.Frag}{Er:Str->Hp->Prop}{X:Cx}{e:Expr}{m:Env'->Mx D}{pos:Pos}
theorem z4y{S:Addr->Prop}{p:Addr}:∀{ds:List PyData} {kvs res:List (PyData×PyData)} {xs:List V} {H:Hp},S p->Pl H p->(∃ks,DctAt H p ks/\DctS S H kvs ks)->DatsS S H ds xs->wA ds kvs=some res->
  ∃ps H',xs.length=ps.length/\(∀(j:Nat) (y v:V),ps[j]?=some (y,v)->∃b,xs[j]?=some (.ref b)/\H b=some (.tup [y,v]))/\Puts p ps H H'/\(∀b,b≠p->H' b=H b)/\Pl H' p/\∃ks,DctAt H' p ks/\DctS S H' res ks
 | [],kvs,res,xs,H,hS,hpl,hk,hd,hr=>by
  simp only[DatsS]at hd;subst hd;simp only[wA]at hr;cases hr;exact⟨[],H,rfl,fun j y v e=>by simp at e,rfl,fun _ _=>rfl,hpl,hk⟩
 | d::r,kvs,res,xs,H,hS,hpl,hk,hd,hr=>by
  unfold wA at hr;split at hr
  ·cases ‹_::_=[]›
  next k v r' acc e1=>
   cases e1;obtain⟨z,ez,hr⟩:=Option.bind_eq_some_iff.mp hr;simp only[DatsS]at hd;obtain⟨x,xs',rfl,dx,dr⟩:=hd;simp only[DatS]at dx;obtain⟨b,ys,rfl,hb,dys⟩:=dx;simp only[DatsS]at dys;obtain⟨y,r1,rfl,dy,w,r2,rfl,dv,rfl⟩:=dys;unfold putD at ez;split at ez
   next c=>
    cases ez;obtain⟨ks,h1,h2⟩:=hk;obtain⟨o,ks',p1,p2,p3,p4⟩:=z43 hS hpl h1 h2 dy dv c.1 c.2;have nt:=h1.not_tup;have kS:Kp S H (upd H p o):=fun c u h z=>by
     by_cases e:c=p
     ·subst e;rcases z with z | ⟨xs,rfl⟩
      ·exact absurd hS z
      ·exact absurd h (nt xs)
     ·rw[z9 e];exact h
    obtain⟨ps,H',l1,l2,l3,l4,l5,l6⟩:=z4y (p:=p) (xs:=xs') hS (Pl.upd p4) ⟨ks',p2,DctS.kp kS (fun _ z=>.inl z) p3⟩ (DatsS.kp kS (fun _ z=>.inl z) dr) hr;refine⟨(y,w)::ps,H',by simp[l1],fun j y' v' e=>?_,⟨_,p1,l3⟩,fun c hc=>(l4 c hc).trans (z9 hc),l5,l6⟩;cases j with
    | zero=>simp at e;obtain⟨rfl,rfl⟩:=e;exact⟨b,rfl,hb⟩
    | succ j=>
     obtain⟨c,ec,hc⟩:=l2 j y' v' (by simpa using e);have hcp:c≠p:=fun z=>by
      subst z;rw[z6]at hc;cases hc;rcases p2 with ⟨l,q,_⟩ | ⟨l,q,_⟩<;>exact q.not_tup True.intro _ z6
     rw[z9 hcp]at hc;exact⟨c,by simpa using ec,hc⟩
   next=>cases ez
  next=>cases hr
theorem z76{p:Pos}(hc:X.calm=true)(hu:X.A.units+64<cLine)(hg:Gl X "dict")(hm:X.mg "dict"=none)(hv:bootBuiltins "dict"=some (.type "dict"))(he:DE K Er X e m)(hs:starEach [e] X.env=(false,eval e X.env)::starEach [] X.env:=by rfl):
  DF K Er X (.Call (.Name "dict" p) [e] [] pos) (mDictOf m):=(yZ (z22 hc hu) hg hm hv (zK he pa_nil hs) (by decide) (by decide) hs rfl).imp fun σ H Q h=>rd1 h xu fun g ow ρ n d v H0 H2 fr _ r q=>by
 obtain⟨z,ez,q2⟩:=wU q;obtain⟨x,rfl,e1⟩:=zc ez;cases x<;>simp only at e1<;>try (cases e1;done)
 rename_i ds
 obtain⟨res,er,e2⟩:=Option.map_eq_some_iff.mp e1;subst e2;obtain⟨l,xs,rfl,hn,h1,h2⟩:=(show ∃a xs,v=.ref a/\¬(g.S ow) a/\H2 a=some (.lst xs)/\DatsS (g.S ow) H2 ds xs by simpa only[Rep,DatS]using r);refine⟨l,xs,rfl,h1,fun p hp=>?_⟩
 ·have s:=Same.new (o:=.dK []) hp;obtain⟨ps,H',l1,l2,l3,l4,l5,ks,l6,l7⟩:=z4y (S:=fun b=>g.S ow b\/b=p) (p:=p) (H:=upd H2 p (.dK [])) (xs:=xs) (.inr rfl) Pl.upd ⟨[],.inl ⟨[],.inl z6,rfl⟩,by simp only[DctS]⟩ (DatsS.kp (Kp.of s) (fun b z=>z.elim .inl fun e=>.inr (e▸hp)) h2) er;refine⟨ps,H',l1,fun j y v e=>?_,l3,?_⟩
  ·obtain⟨b,e1,e2⟩:=l2 j y v e;have hb:b≠p:=fun z=>by subst z;rw[z6]at e2;cases e2
   exact⟨b,e1,by rw[z9 hb]at e2;exact e2⟩
  ·have kk:Kp g.T H2 H':=fun b o e _=>by rw[l4 b (zL e hp)];exact s _ _ e
   refine q2 (.ref p) H' kk (fun b e=>?_) ⟨p,rfl,hp,l5,?_⟩
   ·rw[l4 b (zL (fr.twn b e) hp)];exact s _ _ (fr.twn b e)
   ·simp only[Dat1];exact⟨p,ks,rfl,id,l6,l7⟩
end
section
variable{X:Cx}{tg:Expr}
end
section
variable{K:W.Frag}{Er:Str->Hp->Prop}{X:Cx}{a b c tg:Expr}{ms:Env'->Mx (List D)}
end
section
variable{prog:Program}{w:World}{A:Around}{E:Value->Shared->Prop}{s:Shared}
end
section
variable{X:Cx}{a b:Expr}{ta:TA}{p pos tp:Pos}{elts:List Expr}
end
section
variable{K:W.Frag}{Er:Str->Hp->Prop}{X:Cx}{a b:Expr}{ms:Env'->Mx (List D)}{sa:Env'->Mx Out}{pos p2 p3 tp:Pos}{sts elts:List Stmt}
variable{σ:St}{H:Hp}
end
section
variable{K:W.Frag}{Er:Str->Hp->Prop}{X:Cx}{g:Gh}{ow:Ix->Option Addr}{ρ:Env'}{n n':Nat}{σ:St}{H H' H1:Hp}{kls:List (PyData×List PyData)}
end
section
variable{K:W.Frag}{Er:Str->Hp->Prop}{X:Cx}{g:Gh}{ow:Ix->Option Addr}{ρ:Env'}{n n':Nat}{σ:St}{H H' H1:Hp}
end
section
variable{K:W.Frag}{Er:Str->Hp->Prop}{X:Cx}{elt it:Expr}{pos:Pos}{mc:Env'->Mx Bool}{m:Env'->Mx D}
end
noncomputable def lst(m:Nat):List Nat:=(List.range 8).filter fun i=>m.testBit i
noncomputable def tb0(led:Bool)(l:List Nat):SetTable:={ mask:=7,place:=l.toArray,dummies:=#[],finger:=0,led:=led,moves:=0,plain:=true }
noncomputable def tb1(led:Bool)(l:List Nat):SetTable:={ mask:=31,place:=l.toArray,dummies:=#[],finger:=0,led:=led,moves:=1,plain:=true }
noncomputable def tbl(led:Bool)(l:List Nat):SetTable:=if l.length<5 then tb0 led l else tb1 led l
noncomputable def ins(l:List Nat)(p x:Nat):List Nat:=l.take p++x::l.drop p
noncomputable def nI(n:Nat):Int:=(n:Int)
section
variable{prog:Program}{w:World}{A:Around}{E:Value->Shared->Prop}{s:Shared}
end
section
variable{prog:Program}{w:World}{A:Around}{R:Result->Shared->Prop}{I:Addr}{fp wr:List Addr}{G:Array GenState->Array GenState->Prop}{n:Nat}{P:Nat->Value->Prop}{St:Nat->Shared->Prop}
end
section
variable{prog:Program}{w:World}{A:Around}{E:Value->Shared->Prop}{s:Shared}
end
section
variable{prog:Program}{w:World}{A:Around}{E:Value->Shared->Prop}{s:Shared}
end
section
variable{prog:Program}{w:World}{A:Around}{E:Value->Shared->Prop}{s:Shared}
end
section
variable{prog:Program}{w:World}{A:Around}{E:Value->Shared->Prop}{s:Shared}
end
open PySem.W (kat_lt_int)
section
variable{X:Cx}
end
variable{X:Cx}
variable{K:W.Frag}{Er:Str->Hp->Prop}{a:Expr}{ma:Env'->Mx D}
end L2
namespace L2
open PySem PySem.Spec PyProof.Rows
section
variable{prog:Program}{w:World}{A:Around}{E:Value->Shared->Prop}{s:Shared}
end
section
variable{X:Cx}
variable{K:W.Frag}{Er:Str->Hp->Prop}{e k v o:Expr}{ms:Env'->Mx (List D)}{mk mv:Env'->Mx D}{pos:Pos}
variable{g:Gh}{ow:Ix->Option Addr}{ρ:Env'}{n n':Nat}{σ:St}{H H' H1:Hp}
end
section
variable{K:W.Frag}{Er:Str->Hp->Prop}{X:Cx}{o e f:Expr}{md mk mz:Env'->Mx D}{apos cpos:Pos}
end
section
variable{prog:Program}{w:World}{A:Around}{E:Value->Shared->Prop}{s:Shared}
end
section
variable{X:Cx}
variable{K:W.Frag}{Er:Str->Hp->Prop}{a:Expr}{ma:Env'->Mx D}
end
section
variable{K:W.Frag}{Er:Str->Hp->Prop}{X:Cx}{e:Expr}{es:List Expr}{ms:Env'->Mx (List D)}{pos p:Pos}
noncomputable def isFn(o:Option (Option Sl))(f:Addr):Bool:=match o with
 | some (some (Sl.val (.fn a)))=>decide (a=f)
 | _=>false
theorem z6w{o:Option (Option Sl)}{f:Addr}(h:isFn o f=true):o=some (some (Sl.val (.fn f))):=by
 unfold isFn at h;split at h
 next a=>rw[of_decide_eq_true h]
 next=>cases h
noncomputable def xP(i:Nat)(f:Addr)(F:List D->Mx D)(ms:Env'->Mx (List D)):Env'->Mx D:=fun ρ=>if isFn ρ[i]? f=true then mCall F ms ρ else Mx.bad
theorem z5n{CX:CXT}{k i:Nat}{f:Addr}{fd:FuncData}{ps:List Str}{sp:Sp}{dvs:List V}{ds:List Value}{E:XK}{x:Str}{t:TA}(F:FnOk X.prog X.w X.K X.mg X.base CX k f fd ps sp)(hr:Room k X.A)(hn:PE X (.Name x p) (tVar i))(hk:W.keepIn X.K (.ref f)=true)(hb:Binds X.K fd ps ds)(hd:Vals dvs ds)(hx:ub CX X E)
  (ha:PA X (e::es) t) (he:starEach (e::es) X.env=(false,eval e X.env)::starEach es X.env:=by rfl) (hpl:(backTo pos (starEach es X.env)).any (·.1)=false:=by rfl) :
  PE X (.Call (.Name x p) (e::es) [] pos) (fun σ H Q=>σ[i]?=some (some (.ref f))/\z7Q sp dvs E t σ H Q):=by
 intro pins s σ H Q I h;obtain⟨h0,h⟩:=h;refine wpAny_Call_Name_kw (thn (hn pins s σ H (fun v H1=>v=.ref f/\H1=H) I ⟨.ref f,h0,rfl,rfl⟩) fun u s1 ⟨v,H1,I1,r1,e1,e2⟩=>?_);subst e1 e2;obtain rfl:u=Value.ref f:=r1;refine W.callWith_K (h₀:=X.base) I1.ok.mod.kin hk (thn (ha pos pins s1 σ H1 _ I1 h) fun us s2 ⟨vs,H2,I2,r,q⟩=>⟨I2.kIn,?_⟩) he hpl;exact z6J F hr hb hd hx I2 r q
theorem xH{F:List D->Mx D}{EW:Str->XK->Hp->Prop}{E:XK}{CX:CXT}{k i:Nat}{f:Addr}{fd:FuncData}{ps:List Str}{x:Str}(Fn:FnOk X.prog X.w X.K X.mg X.base CX k f fd ps (spD K EW F))(hE:∀c H',Er c H'->EW c E H')(hr:Room k X.A)(hn:PE X (.Name x p) (tVar i))(hk:W.keepIn X.K (.ref f)=true)(hb:Binds X.K fd ps [])(hx:ub CX X E)
  (ha:DA K Er X (e::es) ms) (he:starEach (e::es) X.env=(false,eval e X.env)::starEach es X.env:=by rfl) (hpl:(backTo pos (starEach es X.env)).any (·.1)=false:=by rfl) :
  DE K Er X (.Call (.Name x p) (e::es) [] pos) (xP i f F ms):=(z5n Fn hr hn hk hb .nil hx ha he hpl).imp fun σ H Q h=>by
 obtain⟨g,ow,ρ,n,fr,q⟩:=h;unfold xP at q;split at q
 next c=>
  obtain⟨v,e1,e2⟩:=fr.val i (.fn f) (z6w c);have e2:v=.ref f:=e2;subst e2;exact⟨e1,z12 hE ⟨g,ow,ρ,n,fr,q⟩⟩
 next=>exact q.elim
noncomputable def z0Y(i j:Nat)(m:Env'->Mx D):Env'->Mx Out:=fun ρ=>Mx.opt (ownL ρ i) >>= fun la=>Mx.opt (ownL ρ j) >>= fun l=>m ρ >>= fun d=>Mx.opt ((onP (fun x=>match x with | .int k=>some k | _=>none) d).bind fun k=>if -1000000<=k/\k<=1000000/\i≠j/\la.length<lim then(seqIndex? k l.length).bind fun p=>l[p]?.map fun y=>Out.nx ((ρ.set j (some (Sl.own (.list (l.eraseIdx p))))).set i (some (Sl.own (.list (la++[y])))))else none)
theorem z3H{i j:Nat}{m:Env'->Mx D}(h:PE X e (tBM X.K "list" z0T (tVar i) (xb (tBM X.K "list" z4H (tVar j) (xb (rdG RE K Er m) tNil)) tNil)))(hs:swapsWith e none pos.line X.env=pure false:=by rfl):DS K Er X (.Expr e pos) (z0Y i j m):=(xW h hs).imp fun σ H E h=>by
 obtain⟨g,ow,ρ,n,f,q⟩:=h;obtain⟨la,ela,q⟩:=uL q;obtain⟨l,el,q⟩:=uL q;obtain⟨a,xs,e1,e2,e3,e4⟩:=f.ownLst ela;obtain⟨b,ys,b1,b2,b3,b4⟩:=f.ownLst el;refine⟨.ref a,e2,.inl ⟨rfl,xs,SqL.of e3⟩,.ref b,b2,.inl ⟨rfl,ys,SqL.of b3⟩,g,ow,ρ,n,f,xw f q fun n1 d v H1 k f1 r q=>?_⟩;obtain⟨out,eo,q⟩:=rs_o q;obtain⟨y,ey,eo2⟩:=Option.bind_eq_some_iff.mp eo;obtain⟨y',rfl,ey2⟩:=zc ey;cases y'<;>simp only at ey2<;>cases ey2;split at eo2
 next hl=>
  obtain⟨p,ep,eo3⟩:=Option.bind_eq_some_iff.mp eo2;obtain⟨z,ez,eo4⟩:=Option.map_eq_some_iff.mp eo3;subst eo4;obtain⟨b',ys',c1,c2,c3,c4⟩:=f1.ownLst el;rw[b1]at c1;cases c1;obtain⟨a',xs',g1,g2,g3,g4⟩:=f1.ownLst ela;rw[e1]at g1;cases g1;have hab:a≠b:=fun z=>hl.2.2.1 (congrArg Prod.fst (f.inj (i,0) (j,0) a e1 (z▸b1)));obtain⟨u,eu,ru⟩:=c4.get ez;have kS:=f1.kpOwn (o:=.lst (ys'.eraseIdx p)) b1 (not_tup c3);have f2:=f1.updOwn (o:=.lst (ys'.eraseIdx p)) (x':=.list (l.eraseIdx p)) (xV el) b1 (not_tup c3) (by
   simp only[Dat1];exact⟨b,_,rfl,id,z6,DatsS.kp kS (fun _ z=>.inl z) (c4.erase p)⟩)
  have h2a:(upd H1 b (.lst (ys'.eraseIdx p))) a=some (.lst xs'):=by rw[z9 hab];exact g3
  have el2:ownL (ρ.set j (some (Sl.own (.list (l.eraseIdx p))))) i=some la:=by
   have:=xV ela;unfold ownL;rw[List.getElem?_set_ne (Ne.symm hl.2.2.1),this]
  have ru2:DatS (g.S ow) (upd H1 b (.lst (ys'.eraseIdx p))) z u:=DatS.kp kS (fun _ z=>.inl z) ru;have g42:DatsS (g.S ow) (upd H1 b (.lst (ys'.eraseIdx p))) la xs':=DatsS.kp kS (fun _ z=>.inl z) g4;refine⟨b,ys',_,p,u,rfl,by rw[show v=.int _ by simpa only[Rep,DatS]using r],c3,by omega,by omega,by rw[<-c4.length];exact ep,eu,a,xs',u,rfl,rfl,h2a,Nat.lt_of_lt_of_le (by rw[<-g4.length];exact hl.2.2.2) (y3 (Nat.le_refl _)),?_⟩;have kS2:=f2.kpOwn (o:=.lst (xs'++[u])) e1 (not_tup h2a);have f3:=f2.updOwn (o:=.lst (xs'++[u])) (x':=.list (la++[z])) (xV el2) e1 (not_tup h2a) (by
   simp only[Dat1];exact⟨a,_,rfl,id,z6,(DatsS.kp kS2 (fun _ z=>.inl z) g42).append (.cons (DatS.kp kS2 (fun _ z=>.inl z) ru2) .nil)⟩)
  exact q _ _ _ f3 ((Stp.upd f1 b1 (not_tup c3)).trans f2.dom (Stp.upd f2 e1 (not_tup h2a)))
 next=>cases eo2
end
section
variable{X:Cx}
end
section
variable{K:W.Frag}{Er:Str->Hp->Prop}{X:Cx}{e:Expr}{m:Env'->Mx D}
noncomputable def fIdx(l:List PyData)(d:PyData):Option PyData:=if d.canLay0=true/\PyData.canLayAll0 l=true/\d.depth<=60/\l.length<=1000 then(l.findIdx? fun z=>PyData.eqv z d).map fun j=>.int (j:Nat)else none
end
section
variable{K:W.Frag}{Er:Str->Hp->Prop}{X:Cx}{a b:Expr}{pos:Pos}{ma mb:Env'->Mx D}
noncomputable def z3U:PyData->PyData->Option PyData
 | .list xs,.int k=>if 0<=k/\k<1000000/\xs.length*k.toNat<=lim then some (.list (List.replicate k.toNat xs).flatten)else none
 | _,_=>none
noncomputable def z6n(ma mb:Env'->Mx D):Env'->Mx PyData:=fun ρ=>ma ρ >>= fun x=>mb ρ >>= fun y=>Mx.opt (onP2 z3U x y)
theorem z6c(ha:DW K Er X a ma)(hb:DW K Er X b mb):DF K Er X (.BinOp a .Mult b pos) (z6n ma mb):=
 (z4q z6I ha hb).imp fun σ H Q h=>rd2 (R':=RF) (Z:=fun v u H2=>rRep v u H2 Q) h xu fun g ow ρ n x y v u H2 fr r1 r2 q=>by
  obtain⟨z,ez,q2⟩:=wU q;obtain⟨x,y,rfl,rfl,e⟩:=zo ez;cases x<;>cases y<;>simp only[z3U]at e<;>try (cases e;done)
  rename_i ds k
  split at e
  next hl=>
   cases e;simp only[Rep1]at r1 r2;obtain⟨l,xs,e1,g1,k1⟩:=yI r1;refine⟨l,_,xs,e1,zY r2,g1,by omega,by omega,y3 (by rw[<-k1.length];exact hl.2.2),fun p hp=>?_⟩;have s:=Same.new (o:=.lst (List.replicate k.toNat xs).flatten) hp;refine q2 (.ref p) _ (Kp.of s) (fun b e=>s _ _ (fr.twn b e)) ⟨p,rfl,hp,Pl.upd,?_⟩;simp only[Dat1];exact⟨p,_,rfl,id,z6,DatsS.kp (Kp.of s) (fun b z=>z.elim .inl fun e=>.inr (e▸hp)) (k1.rep _)⟩
  next=>cases e
end
section
variable{M:Model}{A:Around}{E:Value->Shared->Prop}{s:Shared}
end
section
variable{X:Cx}{E:XK}{x:Str}{C:Addr}{bmB:List Value}{B newId initId:String}{np cpos pos:Pos}{a:Expr}{ta:TA}
end
section
variable{K:W.Frag}{Er:Str->Hp->Prop}{X:Cx}{E:XK}
end
section
variable{P:Program}{w:World}{K:W.Frag}{mg:Str->Option Value}{base:Heap}
end
section
variable{X:Cx}{pins:List (Addr×Obj)}{σ:St}{H:Hp}{s:Shared}
end
section
variable{M:Model}{A:Around}{E:Value->Shared->Prop}
variable{nm q nm' q':Str}{C N G N':Addr}{bs bm bs' bm':List Value}{hd hd':Bool}{sn sn':List Str}{sub sub':List Value}{ab ab':Bool}{col col':Option Bool}{dd dd':Option Addr}{k0 k1 k2 k3 k5 j0 j1 j2 j3 j5:Option Value}{nI nI':String}
end
section
variable{X:Cx}{pins:List (Addr×Obj)}{σ:St}{H:Hp}{s:Shared}
end
section
variable{X:Cx}{pins:List (Addr×Obj)}{σ:St}{H:Hp}{s:Shared}
end
section
open PySem.W
variable{prog:Program}{w:World}{A:Around}{E:Value->Shared->Prop}{h:Heap}{g:Array GenState}{d:Drawn}{t:Nat}{os:OsState}{a C:Addr}{o:Obj}{K:Frag}
end
section
variable{X:Cx}{CX:CXT}{k:Nat}{f C:Addr}{fd:FuncData}{ps:List Str}{sp:Sp}{dvs:List V}{ds:List Value}{E:XK}{x m:Str}{p pos apos:Pos}{e o:Expr}{es:List Expr}{ta:TE}{t:TA}
end
section
variable{K:W.Frag}{Er:Str->Hp->Prop}{X:Cx}{e:Expr}{es:List Expr}{pos:Pos}{ms:Env'->Mx (List D)}
end
section
variable{P:Program}{w:World}{K:W.Frag}{mg:Str->Option Value}{base:Heap}
end
section
open PySem.W
variable{K:Frag}{ea C:Addr}
end
section
variable{X:Cx}
variable{K:W.Frag}{Er:Str->Hp->Prop}{e:Expr}{m:Env'->Mx D}
end
section
variable{K:W.Frag}{Er:Str->Hp->Prop}{X:Cx}
end
section
variable{K:W.Frag}{Er:Str->Hp->Prop}{X:Cx}
end
section
variable{K:W.Frag}{G:Addr}{Cs:List Addr}
end
section
variable{K:W.Frag}{Er:Str->Hp->Prop}{X:Cx}{e:Expr}{es:List Expr}{m:Env'->Mx D}{ms:Env'->Mx (List D)}
end
section
variable{K:W.Frag}{Er:Str->Hp->Prop}{X:Cx}{e a b:Expr}{es els:List Expr}{ms:Env'->Mx (List D)}{m:Env'->Mx D}{pos p lp:Pos}
end
section
variable{K:W.Frag}{Er:Str->Hp->Prop}{X:Cx}{a:Expr}{ma:Env'->Mx D}{pos p2:Pos}
end
open PySem PySem.Spec PyProof.Rows PySem.Builtin PySem.Builtin.Str
section
variable{K:W.Frag}{Er:Str->Hp->Prop}{X:Cx}{e a tg it:Expr}{ma mo m:Env'->Mx D}{pos:Pos}
noncomputable def toS:List PyData->Option (List Str)
 | []=>some []
 | .str y::r=>(toS r).map (y::·)
 | _::_=>none
end
section
variable{K:W.Frag}{Er:Str->Hp->Prop}{X:Cx}{o a:Expr}{ma mo:Env'->Mx D}{apos cpos:Pos}
end
open PySem PySem.Spec PyProof.Rows PySem.Builtin
section
variable{K:W.Frag}{Er:Str->Hp->Prop}{X:Cx}{e o a:Expr}{ma mo m:Env'->Mx D}{apos cpos pos:Pos}
noncomputable def z5u:List PyData->Option PyData
 | [.int i]=>some (.int i)
 | [.bool b]=>some (.int (if b then 1 else 0))
 | _=>none
theorem z7g:CallR X (.type "int") (rDn z5u):=call_int1.imp fun vs H Q ⟨S,ds,r,hS,h1,hf,q⟩=>by
 match ds,hf,h1 with
 | [.int i],hf,h1=>
  cases hf;obtain⟨v,rfl,rr⟩:=all1 h1;have hv:v=.int i:=by simpa only[Dat1,DatS]using rr
  subst hv;exact .inl ⟨i,rfl,q _ _ (Same.refl _) (by simp only[DatS])⟩
 | [.bool b],hf,h1=>
  cases hf;obtain⟨v,rfl,rr⟩:=all1 h1;have hv:v=.bl b:=by simpa only[Dat1,DatS]using rr
  subst hv;exact .inr ⟨b,rfl,q _ _ (Same.refl _) (by simp only[DatS])⟩
end
end L2
namespace PySem.SeqAt
open PySem PySem.MeetsSeq PySem.MeetsSeq2 PySem.MeetsSeq3 PySem.Builtin
open PySem.AutoSeq1 (wpAny_loadPart')
theorem tuple_indexAt(l:Addr)(items:Array Value)(n:Nat)(dd:Option Addr)(sl:Array (Option Value))(x:Value)(e:Value->Bool)(j:Nat)(hj:j<items.size)
  (hit:e items[j]=true) (hno:∀m (hm:m<items.size),m<j->e items[m]=false) :
  Meets (Builtin.«tuple.index» ⟨[.ref l,x],[]⟩)
   (fun A R s=>s.heap.get? l=some { cls:=.type "tuple",dict:=dd,data:=.seq items n,slots:=sl }/\(∀y,y∈items->EqAt A.in1 s y x (e y))/\R (.ok (.ret (.int j s.toks))) { s with toks:=s.toks+1 }):=by
 refine .of_wp fun prog w A R s h=>?_;obtain⟨hp,g,d,tk,os⟩:=s;obtain⟨hl,he,h⟩:=h;unfold Builtin.«tuple.index»;simp only[Std.Legacy.Range.forIn_eq_forIn_range']
 wp_walk using wpAny_loadPart' hl,wpAny_forIn_list _ (fun rest b s'=>s'=⟨hp,g,d,tk,os⟩/\b.1=none/\∃k,k<=j/\rest=List.range' k (items.size - k)) _
 case turn=>
  rintro i rest b s' ⟨rfl,hb,k,hk,hr⟩;have hk2:items.size - k=(items.size - (k+1))+1:=by omega
  rw[hk2,List.range'_succ]at hr;obtain⟨rfl,rfl⟩:=List.cons.inj hr;rw[Array.getElem?_eq_getElem (show i<items.size by omega)];refine wpAny_bind (he _ (Array.getElem_mem _) prog w _ _ ?_);by_cases c:i=j
  ·subst c;rw[hit]
   wp_walk
   exact⟨_,rfl,h⟩
  ·rw[hno i (by omega) (by omega)]
   wp_walk
   exact⟨rfl,rfl,i+1,by omega,rfl⟩
 case fin=>
  rintro b s' ⟨rfl,hb,k,hk,hr⟩;exfalso
  have:=congrArg List.length hr;rw[List.length_range']at this;simp at this;omega
 exact⟨rfl,rfl,0,Nat.zero_le _,by simp[Std.Legacy.Range.size]⟩
end PySem.SeqAt
namespace L2
open PySem PySem.Spec PyProof.Rows
section
variable{X:Cx}
noncomputable def z7Z:V->List V->Hp->VK->Prop:=fun x vs H Q=>∃(l:Addr) (y:V) (xs:List V) (d:PyData) (ds:List PyData) (j:Nat),x=.ref l/\vs=[y]/\H l=some (.tup xs)/\DatV H (.tuple ds) (.ref l)/\DatV H d y/\d.canLay0=true/\PyData.canLayAll0 ds=true/\d.depth<=60/\j<1000/\(∃z,ds[j]?=some z/\PyData.eqv z d=true)/\(∀i z,i<j->ds[i]?=some z->PyData.eqv z d=false)/\Q (.int (j:Nat)) H
theorem wa(hu:X.A.units+64<cLine):MtM X "tuple.index" z7Z:=by
 intro pins s σ H x vs v us Q I rx rv h;obtain⟨l,y,xs,d,ds,j,rfl,rfl,hH,h1,h2,c1,c2,hd,hj,⟨z0,hz0,ez0⟩,hno,q⟩:=h;cases rx;obtain⟨u,rfl,ru⟩:=rv.one;obtain⟨⟨_,ob,e,edn⟩,its,r,ob2,e2,ecl,n,edt⟩:=(show ObjOk X.prog X.w H s.heap l (.tup xs) from I.hok l _ hH);rw[e]at e2;cases e2;obtain⟨cls,dct,dta,slo⟩:=ob;cases ecl;cases edt;obtain⟨as,r1⟩:=DatV.reads I.hok h1 (show RelV (.ref l) (.ref l) from rfl);obtain⟨bs,r2⟩:=DatV.reads I.hok h2 ru;cases r1 with
 | tuple a1 a2 a3 a4=>
  rename_i ob arr _
  rw[e]at a1;cases a1;obtain⟨rfl,_⟩:its.toArray=_/\_:=by injection a3 with z1 z2;exact⟨z1,z2⟩
  have em:=SeqAt.readsAll_map ds _ _ c2 a4;have gt:∀i:Nat,ds[i]?=its[i]?.map (SeqAt.readOf s.heap):=fun i=>by
   have:ds[i]?=(its.map (SeqAt.readOf s.heap))[i]?:=by rw[show its.map (SeqAt.readOf s.heap)=ds from em]
   rw[this,List.getElem?_map]
  have hjl:j<its.length:=by
   rw[gt j]at hz0;cases w:its[j]? with
   | none=>rw[w]at hz0;cases hz0
   | some w'=>exact(List.getElem?_eq_some_iff.mp w).1
  refine call_meets F.slot_tuple_index ⟨_,e,rfl⟩ F.entry_tuple_index (F.args_tuple_index_2 _ _) (SeqAt.tuple_indexAt l its.toArray n dct slo u (fun y=>PyData.eqv (SeqAt.readOf s.heap y) d) j (by simpa using hjl) ?_ fun i hi hij=>?_) ⟨e,SeqAt.items_eqAt a4 r2 c2 c1 (by have:=Nat.min_le_right (PyData.depthAll ds) d.depth;omega),⟨.int _,H,I.tok _,⟨_,rfl⟩,q⟩⟩
  ·rw[gt j,List.getElem?_eq_getElem hjl]at hz0;cases hz0;simpa using ez0
  ·have hi':i<its.length:=by simpa using hi
   have:=hno i (SeqAt.readOf s.heap its[i]) hij (by rw[gt i,List.getElem?_eq_getElem hi'];rfl);simpa using this
end
section
variable{K:W.Frag}{Er:Str->Hp->Prop}{X:Cx}{e:Expr}{mo m:Env'->Mx D}
noncomputable def tupD:PyData->Option (List PyData)
 | .tuple l=>some l
 | _=>none
noncomputable def z3B(mo m:Env'->Mx D):Env'->Mx D:=fun ρ=>mo ρ >>= fun t=>Mx.opt (onP tupD t) >>= fun l=>m ρ >>= fun d=>Mx.opt ((onP (fIdx l) d).map D.p)
theorem z1v(h:PE X e (tBM X.K "tuple" z7Z (rdG RE K Er mo) (xb (rdG RE K Er m) tNil))):DE K Er X e (z3B mo m):=h.imp fun σ H Q h=>by
 obtain⟨g,ow,ρ,n,f,q⟩:=h;refine⟨g,ow,ρ,n,f,AftG.bind q fun t n1 v1 H1 k1 t1 r1 c1=>?_⟩;have f1:=f.kp k1 t1;obtain⟨l,el,q1⟩:=yk (c1 (R3:=RE g (g.S ow)) fun _ _ _ z=>z);obtain⟨t',rfl,el⟩:=zc el;cases t' with
 | tuple ds=>
  have el:ds=l:=Option.some.inj el;subst el;have r1:DatS (g.S ow) H1 (.tuple ds) v1:=r1;have r1':=r1;simp only[DatS]at r1';obtain⟨a,xs,rfl,ha,hxs⟩:=r1';refine⟨.inr (.inl ⟨rfl,.inr ⟨xs,ha⟩⟩),g,ow,ρ,n1,f1,AftG.bind q1 fun d n2 v H2 k2 t2 r2 c2=>?_⟩;obtain⟨w,ew,q2⟩:=xB t2 (c2 (R3:=RE g (g.S ow)) fun _ _ _ z=>z);obtain⟨d',rfl,e5⟩:=zc ew;have r3:DatS (g.S ow) H2 (.tuple ds) (.ref a):=r1.kp (k2.mono Gh.ts) fun _ z=>.inl z;have r3':=r3;simp only[DatS]at r3';obtain⟨a',xs',ea,g3,g4⟩:=r3';cases ea;unfold fIdx at e5;split at e5
  next c=>
   obtain⟨j,ej,e6⟩:=Option.map_eq_some_iff.mp e5;cases e6;have r2:DatS (g.S ow) H2 d' v:=r2;obtain⟨hj,h1,h2⟩:=List.findIdx?_eq_some_iff_getElem.mp ej;refine⟨a,v,xs',d',ds,j,rfl,rfl,g3,r3.datV (by simp only[PyData.canLay0];exact c.2.1),r2.datV c.1,c.1,c.2.1,c.2.2.1,by omega,⟨ds[j],List.getElem?_eq_getElem hj,h1⟩,fun i z hi ez=>?_,q2 _ _ (Same.refl _) di⟩;obtain⟨hil,rfl⟩:=List.getElem?_eq_some_iff.mp ez
   have:=h2 i hi;simpa using this
  next=>cases e5
 | _=>cases el
end
section
variable{K:W.Frag}{Er:Str->Hp->Prop}{X:Cx}{tg:Expr}{es:List Expr}{sts:List Stmt}{pos:Pos}{σ:St}{H:Hp}
noncomputable def tFns:List Addr->TA
 | []=>tNil
 | a::r=>xb (tC (.ref a)) (tFns r)
theorem z3m:∀(as:List Addr) {Q:List V->Hp->Prop},Q (as.map V.ref) H->tFns as σ H Q
 | [],Q,h=>h
 | a::r,Q,h=>z3m r (Q:=fun xs H2=>Q (V.ref a::xs) H2) h
noncomputable def RFn:RG (List Addr) It:=fun g S _ H' as J=>Walks S H' J (as.map V.ref)
noncomputable def mFns(as:List Addr):Env'->Mx (List Addr):=fun _=>pure as
theorem z83{as:List Addr}{x1}(h:PA X es (tFns as))(hl:as.length<=lim):PI X tg (.Tuple es x1 pos) (rdG RFn K Er (mFns as)):=(z47 (z6B h)).imp fun σ H Q ⟨g,ow,ρ,n,f,q⟩=>by
 refine z3m as ⟨?_,fun p hp=>?_⟩
 ·rw[List.length_map];exact Nat.le_trans hl (y3 (Nat.le_refl _))
 ·have s:=Same.new (o:=.tup (as.map V.ref)) hp;exact⟨p,rfl,.inr ⟨⟨_,SqT.of z6⟩,q _ _ (Kp.of s) (fun b e=>s _ _ (f.twn b e)) (wj z6)⟩⟩
noncomputable def uW(i:Nat):List Addr->List (Env'->Mx Out)->Env'->Mx Out
 | a::r,s::t,ρ=>s (ρ.set i (some (Sl.val (.fn a)))) >>= xn (uW i r t)
 | [],_,ρ=>pure (.nx ρ)
 | _::_,[],_=>Mx.bad
noncomputable def z27(i:Nat)(as:List Addr)(ss:List (Env'->Mx Out)):Env'->Mx Out:=fun ρ=>mFns as ρ >>= fun as=>uW i as ss ρ
theorem z39{i:Nat}{as:List Addr}{ss:List (Env'->Mx Out)}{E:Ends}(h:rdS K Er (z27 i as ss) E σ H):tFor (rdG RFn K Er (mFns as)) (uR i) (fun E σ H=>∃s∈ss,rdS K Er s E σ H) E σ H:=by
 refine rs1 h fun g ow ρ n n1 as J H1 f _ f1 wk q=>?_;have hlen:(as.map V.ref).length=as.length:=List.length_map ..;refine⟨fun k mm σ' H'=>mm=as.length - k/\k<=as.length/\∃ow' ρ' n',Frm K g ow' ρ' n' σ' H'/\Stp g ow H1 ow' H'/\AftS K g ow' H' Er (uW i (as.drop k) (ss.drop k) ρ' n') E,⟨as.length,by simp,Nat.zero_le _,ow,ρ,n1,f1,Stp.refl,q⟩,?_⟩;rintro k mm σ' H' ⟨rfl,hk,ow',ρ',n',f',s',q'⟩;by_cases hlt:k<as.length
 ·refine .inr ⟨wk.go k H' s'.kp (by omega),fun σ2 H2=>∃ow2 ρ2 n2,Frm K g ow2 ρ2 n2 σ2 H2/\Stp g ow H1 ow2 H2/\AftS K g ow2 H2 Er (uW i (as.drop (k+1)) (ss.drop (k+1)) ρ2 n2) E,fun σ2 H2 p=>⟨as.length - (k+1),by omega,rfl,hlt,p⟩,fun x H2 y=>?_⟩;obtain⟨rfl,hx⟩:=wk.yld k H' x H2 s'.kp y;have hx:=hx (by omega);rw[List.getElem?_map,List.getElem?_eq_getElem hlt]at hx;cases hx;by_cases hs:k<ss.length
  ·rw[List.drop_eq_getElem_cons hlt,List.drop_eq_getElem_cons hs]at q';simp only[uW]at q';have f3:=f'.setVal (i:=i) (d:=.fn as[k]) (v:=.ref as[k]) rfl;refine⟨ss[k],List.getElem_mem hs,g,_,_,n',f3,?_⟩;refine wl (k:=uW i (as.drop (k+1)) (ss.drop (k+1))) (AftS.later q' f3.dom Stp.put) fun ow4 ρ4 n4 σ4 H4 f4 s4 q4=>⟨ow4,ρ4,n4,f4,s'.trans f'.dom (Stp.put.trans f3.dom s4),q4⟩
  ·rw[List.drop_eq_getElem_cons hlt,show ss.drop k=[] from List.drop_of_length_le (by omega)]at q';exact q'.elim
 ·have e:k=as.length:=by omega
  subst e;rw[List.drop_of_length_le (Nat.le_refl _)]at q';have q'':AftS K g ow' H' Er ((pure (.nx ρ'):Mx Out) n') E:=by
   cases hd:ss.drop as.length with
   | nil=>rw[hd]at q';exact q'
   | cons a r=>rw[hd]at q';exact q'
  exact .inl ⟨by have:=wk.stop H' s'.kp;rwa [hlen]at this,q'' ow' σ' H' f' Stp.refl⟩
theorem z6a{ss:List (Env'->Mx Out)}(h:∀s∈ss,DSs K Er X sts s):PSs X sts (fun E σ H=>∃s∈ss,rdS K Er s E σ H):=by
 intro pins s σ H E I q;obtain⟨m,hm,q⟩:=q;exact h m hm pins s σ H E I q
theorem z5v{i:Nat}{as:List Addr}{ss:List (Env'->Mx Out)}{x1 p1}(hp:PassesOwn (model X.prog X.w) X.A X.env X.xe)(hc:X.calm=true)(hi:PA X es (tFns as))(hl:as.length<=lim)(hg:PG X tg (uR i))(hb:∀s∈ss,DSs K Er X sts s)(hs:∀x,foldedSetIterable (.Tuple es x1 p1) X.env x=pure x:=by intro _;rfl):DS K Er X (.For tg (.Tuple es x1 p1) sts [] pos) (z27 i as ss):=
 (z4Q hp hc (z83 hi hl) hg (z6a hb) hs).imp fun σ H E h=>z39 h
end
def Ok{α:Type}(m:Mx α)(n:Nat)(P:α->Nat->Prop):Prop:=∃a n',m n=.ok a n'/\P a n'
section
variable{α β:Type}{n:Nat}
theorem Ok.imp{m:Mx α}{P Q:α->Nat->Prop}(h:Ok m n P)(k:∀a n',P a n'->Q a n'):Ok m n Q:=by
 obtain⟨a,n',e,p⟩:=h;exact⟨a,n',e,k a n' p⟩
theorem ok_bind(m:Mx α)(f:α->Mx β)(P:β->Nat->Prop):Ok (m >>= f) n P↔Ok m n (fun a n'=>Ok (f a) n' P):=by
 constructor
 ·rintro⟨b,n',e,p⟩;rw[Mx.bind_def]at e;cases z:m n with
  | ok a n1=>rw[z]at e;exact⟨a,n1,z,b,n',e,p⟩
  | err c n1=>rw[z]at e;cases e
  | bad=>rw[z]at e;cases e
 ·rintro⟨a,n1,e1,b,n2,e2,p⟩;exact⟨b,n2,by rw[Mx.bind_def,e1];exact e2,p⟩
theorem ok_pure(a:α)(P:α->Nat->Prop):Ok (pure a:Mx α) n P↔P a n:=
 ⟨fun⟨_,_,e,p⟩=>by cases e;exact p,fun p=>⟨a,n,rfl,p⟩⟩
theorem ok_some(a:α)(P:α->Nat->Prop):Ok (Mx.opt (some a)) n P↔P a n:=
 ⟨fun⟨_,_,e,p⟩=>by cases e;exact p,fun p=>⟨a,n,rfl,p⟩⟩
theorem uZ{o:Option α}{P:α->Nat->Prop}{a:α}(e:o=some a)(h:P a n):Ok (Mx.opt o) n P:=by rw[e];exact(ok_some a P).mpr h
end
theorem ue{τ:Env'->PyData->Option Env'}{body:Env'->Mx Out}{P:Out->Nat->Prop}(I:Nat->Env'->Nat->Prop){ds:List PyData}
  (step:∀k ρ n (hk:k<ds.length),I k ρ n->∃ρ1,τ ρ ds[k]=some ρ1/\Ok (body ρ1) n fun o n'=>match o with
   | .nx ρ'=>I (k+1) ρ' n'
   | .ct ρ'=>I (k+1) ρ' n'
   | .bk ρ'=>P (.nx ρ') n'
   | .rt d=>P (.rt d) n')
  (ends:∀ρ n,I ds.length ρ n->P (.nx ρ) n) {ρ:Env'} {n:Nat} (h:I 0 ρ n):Ok (xA τ body ds ρ) n P:=by
 have gen:∀(l:List PyData) (k:Nat),ds.drop k=l->k<=ds.length->∀ρ n,I k ρ n->Ok (xA τ body l ρ) n P:=by
  intro l
  induction l with
  | nil=>
   intro k e hk ρ n h
   have:k=ds.length:=by
    have:=congrArg List.length e;rw[List.length_drop,List.length_nil]at this;omega
   subst this;simp only[xA,ok_pure];exact ends ρ n h
  | cons d r ih=>
   intro k e hk ρ n h;have hlt:k<ds.length:=by
    have:=congrArg List.length e;rw[List.length_drop,List.length_cons]at this;omega
   have ed:ds[k]=d/\ds.drop (k+1)=r:=by
    rw[List.drop_eq_getElem_cons hlt]at e;exact⟨(List.cons.inj e).1,(List.cons.inj e).2⟩
   obtain⟨ρ1,e1,hb⟩:=step k ρ n hlt h;rw[ed.1]at e1;simp only[xA,e1,ok_bind,ok_some];refine hb.imp fun o n' ho=>?_;cases o with
   | nx ρ'=>exact ih (k+1) ed.2 hlt ρ' n' ho
   | ct ρ'=>exact ih (k+1) ed.2 hlt ρ' n' ho
   | bk ρ'=>simp only[xn,ok_pure];exact ho
   | rt d=>simp only[xn,ok_pure];exact ho
 exact gen ds 0 (List.drop_zero) (Nat.zero_le _) ρ n h
theorem z2g{c:Env'->Mx Bool}{body:Env'->Mx Out}{P:Out->Nat->Prop}(I:Nat->Env'->Nat->Prop)
  (step:∀μ ρ n,I μ ρ n->Ok (c ρ) n fun t n'=>(t=true->∃μ',μ=μ'+1/\Ok (body ρ) n' fun o n2=>match o with
   | .nx ρ'=>∃ν,ν<=μ'/\I ν ρ' n2
   | .ct ρ'=>∃ν,ν<=μ'/\I ν ρ' n2
   | .bk ρ'=>P (.nx ρ') n2
   | .rt d=>P (.rt d) n2)/\(t=false->P (.nx ρ) n')) {μ k:Nat} (hk:μ<k) {ρ:Env'} {n:Nat} (h:I μ ρ n):Ok (uS c body k ρ) n P:=by
 have gen:∀(k μ:Nat),μ<k->∀ρ n,I μ ρ n->Ok (uS c body k ρ) n P:=by
  intro k
  induction k with
  | zero=>intro μ h;omega
  | succ k ih=>
   intro μ hμ ρ n h;simp only[uS,ok_bind];refine(step μ ρ n h).imp fun t n' ⟨h1,h2⟩=>?_;cases t with
   | false=>simp only[Bool.false_eq_true,if_false,ok_pure];exact h2 rfl
   | true=>
    obtain⟨μ',e,hb⟩:=h1 rfl;simp only[if_true,ok_bind];refine hb.imp fun o n2 ho=>?_;cases o with
    | nx ρ'=>obtain⟨ν,hν,hi⟩:=ho;exact ih ν (by omega) ρ' n2 hi
    | ct ρ'=>obtain⟨ν,hν,hi⟩:=ho;exact ih ν (by omega) ρ' n2 hi
    | bk ρ'=>simp only[xn,ok_pure];exact ho
    | rt d=>simp only[xn,ok_pure];exact ho
 exact gen k μ hk ρ n h
theorem xy{c:Env'->Mx Bool}{e:Env'->Mx D}{ρ:Env'}{P:List PyData->Nat->Prop}(I:Nat->List PyData->Nat->Prop){ds:List PyData}
  (step:∀k acc n (hk:k<ds.length),I k acc n->Ok (c (ρ++[some (Sl.val (.p ds[k]))])) n fun t n'=>(t=true->Ok (e (ρ++[some (Sl.val (.p ds[k]))])) n' fun y n2=>∃z,y=.p z/\I (k+1) (acc++[z]) n2)/\(t=false->I (k+1) acc n'))
  (ends:∀acc n,I ds.length acc n->P acc n) {acc:List PyData} {n:Nat} (h:I 0 acc n):Ok (zS c e ρ ds acc) n P:=by
 have gen:∀(l:List PyData) (k:Nat),ds.drop k=l->k<=ds.length->∀acc n,I k acc n->Ok (zS c e ρ l acc) n P:=by
  intro l
  induction l with
  | nil=>
   intro k ez hk acc n h
   have:k=ds.length:=by
    have:=congrArg List.length ez;rw[List.length_drop,List.length_nil]at this;omega
   subst this;simp only[zS,ok_pure];exact ends acc n h
  | cons d r ih=>
   intro k ez hk acc n h;have hlt:k<ds.length:=by
    have:=congrArg List.length ez;rw[List.length_drop,List.length_cons]at this;omega
   have ed:ds[k]=d/\ds.drop (k+1)=r:=by
    rw[List.drop_eq_getElem_cons hlt]at ez;exact⟨(List.cons.inj ez).1,(List.cons.inj ez).2⟩
   have st:=step k acc n hlt h;rw[ed.1]at st;simp only[zS,ok_bind];refine st.imp fun t n' ⟨h1,h2⟩=>?_;cases t with
   | false=>simp only[Bool.false_eq_true,if_false];exact ih (k+1) ed.2 hlt acc n' (h2 rfl)
   | true=>
    simp only[if_true,ok_bind];refine(h1 rfl).imp fun y n2 ⟨z,ey,hi⟩=>?_;subst ey;simp only[onP,ok_some];exact ih (k+1) ed.2 hlt _ n2 hi
 exact gen ds 0 (List.drop_zero) (Nat.zero_le _) acc n h
theorem z0L{c:Env'->Mx Bool}{e:Env'->Mx D}{ρ:Env'}(f:PyData->Option PyData){ds:List PyData}{n:Nat}
  (step:∀d∈ds,(f d=none/\Ok (c (ρ++[some (Sl.val (.p d))])) n fun t n'=>t=false/\n'=n)\/∃z,f d=some z/\Ok (c (ρ++[some (Sl.val (.p d))])) n fun t n'=>t=true/\n'=n/\Ok (e (ρ++[some (Sl.val (.p d))])) n fun y n2=>y=.p z/\n2=n)
  {P:List PyData->Nat->Prop} (h:P (ds.filterMap f) n):Ok (zS c e ρ ds []) n P:=by
 refine xy (I:=fun k acc n'=>n'=n/\acc=(ds.take k).filterMap f) (fun k acc n' hk hI=>?_) (fun acc n' hI=>?_) ⟨rfl,by simp⟩
 ·obtain⟨e1,e2⟩:=hI;subst e1;have tk:(ds.take (k+1)).filterMap f=(ds.take k).filterMap f++(match f ds[k]with | some z=>[z] | none=>[]):=by
   rw[List.take_succ,List.getElem?_eq_getElem hk,List.filterMap_append];congr 1;simp only[Option.toList];cases z:f ds[k]<;>simp[z]
  rcases step ds[k] (List.getElem_mem hk)with ⟨fz,h1⟩ | ⟨z,fz,h1⟩
  ·refine h1.imp fun t n1 ht=>?_;obtain⟨et,en⟩:=ht;refine⟨fun z=>?_,fun _=>⟨en,?_⟩⟩
   ·rw[et]at z;cases z
   ·rw[tk,fz,<-e2];simp
  ·refine h1.imp fun t n1 ht=>?_;obtain⟨et,en,h2⟩:=ht;refine⟨fun _=>?_,fun z=>?_⟩
   ·rw[en];refine h2.imp fun y n2 hy=>?_;obtain⟨ey,en2⟩:=hy;refine⟨z,ey,en2,?_⟩;rw[tk,fz,<-e2]
   ·rw[et]at z;cases z
 ·obtain⟨e1,e2⟩:=hI;subst e1 e2;rw[List.take_length];exact h
theorem yp{nn ar:Nat}{m:Env'->Mx Out}{ds:List D}{n:Nat}{P:D->Nat->Prop}(hl:ds.length=ar)(h:Ok (m (ds.map (fun d=>some (Sl.val d))++List.replicate (nn - ar) none)) n fun o n'=>match o with
      | .rt d=>P d n'
      | .nx _=>P (.p .none) n'
      | _=>False):Ok (mFn nn ar m ds) n P:=by
  unfold mFn;rw[if_pos hl,ok_bind];refine h.imp fun o n' ho=>?_;cases o with
  | rt d=>simp only[outD,ok_pure];exact ho
  | nx ρ=>simp only[outD,ok_pure];exact ho
  | bk ρ=>exact ho.elim
  | ct ρ=>exact ho.elim
theorem ok_seq{a b:Env'->Mx Out}{ρ:Env'}{n:Nat}{P:Out->Nat->Prop}:Ok (sSeq a b ρ) n P↔Ok (a ρ) n fun o n'=>match o with
      | .nx ρ'=>Ok (b ρ') n' P
      | o=>P o n':=by
  unfold sSeq;rw[ok_bind];constructor
  · refine fun h=>h.imp fun o n' ho=>?_;cases o<;>first | exact ho | (simp only[ok_pure]at ho;exact ho)
  · refine fun h=>h.imp fun o n' ho=>?_;cases o<;>first | exact ho | (simp only[ok_pure];exact ho)
open PySem
theorem onP2_pp{α:Type}(f:PyData->PyData->Option α)(x y:PyData):onP2 f (.p x) (.p y)=f x y:=rfl
theorem onP_p{α:Type}(f:PyData->Option α)(x:PyData):onP f (.p x)=f x:=rfl
theorem onB_b(b:Bool):onB (.p (.bool b))=some b:=rfl
theorem fAdd_int(i j:Int):fAdd (.int i) (.int j)=some (.int (i+j)):=rfl
theorem fSub_int(i j:Int):fSub (.int i) (.int j)=some (.int (i - j)):=rfl
theorem xo{i j:Int}(h:0<j):fMod (.int i) (.int j)=some (.int (i % j)):=by simp only[fMod,if_pos h]
theorem z7R{i j:Int}(h : -(2 ^ 64)<j/\j<2 ^ 64):fMul (.int i) (.int j)=some (.int (i*j)):=by simp only[fMul];rw[if_pos (.inr h)]
theorem z6N{i j:Int}(h : -(2 ^ 64)<i/\i<2 ^ 64):fMul (.int i) (.int j)=some (.int (i*j)):=by simp only[fMul];rw[if_pos (.inl h)]
theorem z61{i j:Int}(h:0<=j/\j<=1000/\i.natAbs<2 ^ 64):fPow (.int i) (.int j)=some (.int (i ^ j.toNat)):=by simp only[fPow];rw[if_pos h]
theorem fLt_int(i j:Int):fLt (.int i) (.int j)=some (.bool (decide (i<j))):=rfl
theorem fCmp_int(p:Int->Int->Bool)(i j:Int):fCmp p (.int i) (.int j)=some (.bool (p i j)):=rfl
theorem yV(i j:Int):PyData.eqv (.int i) (.int j)=decide (i=j):=by simp[PyData.eqv,Bool.beq_eq_decide_eq]
theorem fEq_int(i j:Int):fEq false (.int i) (.int j)=some (.bool (decide (i=j))):=by
 unfold fEq;rw[if_pos ⟨rfl,rfl,by simp[PyData.depth]⟩,yV];rfl
theorem fNe_int(i j:Int):fEq true (.int i) (.int j)=some (.bool (!decide (i=j))):=by
 unfold fEq;rw[if_pos ⟨rfl,rfl,by simp[PyData.depth]⟩,yV];rfl
theorem z91{α:Type}(x:α)(l:List α):atI (x::l) 0=some x:=by
 have:=u5 (xs:=x::l) (j:=0) (v:=x) rfl;simpa using this
theorem z94{α:Type}(x y:α)(l:List α):atI (x::y::l) 1=some y:=by
 have:=u5 (xs:=x::y::l) (j:=1) (v:=y) rfl;simpa using this
theorem z0o{α:Type}{xs:List α}{i:Int}{v:α}(h0:0<=i)(h:xs[i.toNat]?=some v):atI xs i=some v:=by
 have:=u5 h
 rwa [Int.toNat_of_nonneg h0]at this
theorem fIx_t0(x:PyData)(l:List PyData):fIx (.tuple (x::l)) (.int 0)=some x:=z91 x l
theorem fIx_t1(x y:PyData)(l:List PyData):fIx (.tuple (x::y::l)) (.int 1)=some y:=z94 x y l
theorem fLen_t(l:List PyData):fLen [.tuple l]=some (.int l.length):=rfl
theorem fLen_l(l:List PyData):fLen [.list l]=some (.int l.length):=rfl
theorem z70{ρ:Env'}{i n:Nat}{P:Out->Nat->Prop}(h:wz ρ[i]?=true)(hn:n<lim)(k:P (.nx ρ) (n+1)):Ok (z3e i ρ) n P:=⟨.nx ρ,n+1,by unfold z3e;rw[if_pos ⟨h,hn⟩],k⟩
theorem z6r{ρ:Env'}{i n:Nat}{P:D->Nat->Prop}(h:wz ρ[i]?=true)(k:P (.p (.int n)) n):Ok (z4Y i ρ) n P:=⟨_,n,by unfold z4Y;rw[if_pos h],k⟩
theorem fIsi_bi(x:Int):fIsi "bool" (.int x)=some (.bool false):=rfl
theorem fIsi_ii(x:Int):fIsi "int" (.int x)=some (.bool true):=rfl
theorem fIsi_tt(l:List PyData):fIsi "tuple" (.tuple l)=some (.bool true):=rfl
theorem slW_val(d:D):slW (some (some (Sl.val d)))=some d:=rfl
theorem slW_own(x:PyData):slW (some (some (Sl.own x)))=some (.p x):=rfl
theorem slV_val(d:D):slV (some (some (Sl.val d)))=some d:=rfl
theorem le_lim0:(0<=lim)=True:=eq_true (by unfold lim;omega)
theorem le_lim1:(1<=lim)=True:=eq_true (by unfold lim;omega)
theorem le_lim2:(2<=lim)=True:=eq_true (by unfold lim;omega)
theorem toP_nil:toP []=some []:=rfl
theorem toP_p(x:PyData)(r:List D):toP (.p x::r)=(toP r).map (x::·):=rfl
theorem onPs_def{α:Type}(f:List PyData->Option α)(ds:List D):onPs f ds=(toP ds).bind f:=rfl
theorem zb{j:Int}(h : -1000000<=j/\j<=1000000):yW [.int j]=some (rngD 0 j):=by simp only[yW,if_pos h]
theorem z2F{i j:Int}(h:(-1000000<=i/\i<=1000000)/\(-1000000<=j/\j<=1000000)/\(j - i).toNat<=lim):z2s [.int i,.int j]=some (rngD i j):=by simp only[z2s,if_pos h]
theorem fTuple_l(l:List PyData):yn [.list l]=some (.tuple l):=rfl
theorem wN{lo hi:Int}{k:Nat}(h:k<(rngD lo hi).length):(rngD lo hi)[k]=.int (lo+k):=by
 simp[rngD]
theorem yd{lo hi:Int}:(rngD lo hi).length=(hi - lo).toNat:=by simp[rngD]
theorem z6M{i:Nat}{m:Env'->Mx D}{ρ:Env'}{n:Nat}{P:Out->Nat->Prop}{l:List PyData}(hl:ownL ρ i=some l)(h:Ok (m ρ) n fun d n'=>∃z,d=.p (.list z)/\l.length+z.length<10000/\P (.nx (ρ.set i (some (Sl.own (.list (l++z)))))) n'):Ok (sExt i m ρ) n P:=by
 unfold sExt;simp only[hl,ok_bind,ok_some];refine h.imp fun d n' hz=>?_;obtain⟨z,rfl,hlen,hp⟩:=hz;have hlen:l.length+z.length<=lim:=by unfold lim;omega
 simp only[onP_p,Option.bind_some,if_pos hlen,ok_some];exact hp
theorem z7q{i:Nat}{m:Env'->Mx D}{ρ:Env'}{n:Nat}{P:Out->Nat->Prop}{l:List PyData}(hl:ownL ρ i=some l)(h:Ok (m ρ) n fun d n'=>∃z,d=.p z/\l.length<10000/\P (.nx (ρ.set i (some (Sl.own (.list (l++[z])))))) n'):Ok (sApp i m ρ) n P:=by
 unfold sApp;simp only[hl,ok_bind,ok_some];refine h.imp fun d n' hz=>?_;obtain⟨z,rfl,hlen,hp⟩:=hz;have hlen:l.length<lim:=by unfold lim;omega
 simp only[onP_p,Option.bind_some,if_pos hlen,ok_some];exact hp
end L2
local macro_rules | `(tactic| walk_at "ev")=>`(tactic| simp -implicitDefEqProofs only[L2.ok_seq,L2.sSet,L2.sRet,L2.sIf,L2.sExpr,L2.sNil,L2.sOwn,L2.mBin,L2.mC,L2.mVar,L2.mVal,L2.mCons,L2.mNil,L2.mCall,L2.mCallB,L2.mSeq,L2.mP,L2.mTest,L2.mTru,L2.mNotT,L2.mOrT,L2.mAndT,L2.mAndV,L2.mIf,L2.mUn,L2.mChain,L2.mRng,L2.mIt,L2.mYes,L2.mMinD,L2.mDictOf,L2.ok_bind,L2.ok_pure,L2.ok_some,List.getElem?_cons_zero,List.getElem?_cons_succ,List.set_cons_zero,List.set_cons_succ,List.map_cons,List.map_nil,List.replicate_succ,List.replicate_zero,List.cons_append,List.nil_append,L2.slW_val,L2.slW_own,L2.slV_val,L2.le_lim0,L2.le_lim1,L2.le_lim2,L2.onP2_pp,L2.onP_p,L2.onB_b,Option.map_some,Option.bind_some,L2.toP_nil,L2.toP_p,L2.onPs_def,L2.fTuple_l,List.length_cons,List.length_nil,if_true,Nat.reduceAdd,Nat.reduceSub,Nat.reduceLT,if_false,Bool.false_eq_true,L2.truD,Bool.not_true,Bool.not_false,L2.fAdd_int,L2.fSub_int,L2.fLt_int,L2.fCmp_int,L2.fEq_int,L2.fNe_int,L2.fIx_t0,L2.fIx_t1,L2.fLen_t,L2.fLen_l,L2.bool?,L2.fIsi_bi,L2.fIsi_ii,L2.fIsi_tt])
local macro_rules | `(tactic| walk_at "ee")=>`(tactic| ((try walk_at "ev");(try simp -implicitDefEqProofs only[L2.mComp]);(try walk_at "ev")))
namespace L2
open PySem
section
variable{α β:Type}{n:Nat}{ρ:Env'}
def kont(b:Env'->Mx Out)(P:Out->Nat->Prop)(o:Out)(n:Nat):Prop:=match o with
 | .nx ρ'=>Ok (b ρ') n P
 | o=>P o n
def outP(P:D->Nat->Prop)(o:Out)(n:Nat):Prop:=match o with
 | .rt d=>P d n
 | .nx _=>P (.p .none) n
 | _=>False
theorem t_bind{m:Mx α}{f:α->Mx β}{P:β->Nat->Prop}(h:Ok m n fun a n'=>Ok (f a) n' P):Ok (m >>= f) n P:=(ok_bind m f P).mpr h
theorem t_pure{a:α}{P:α->Nat->Prop}(h:P a n):Ok (pure a:Mx α) n P:=⟨a,n,rfl,h⟩
theorem t_some{a:α}{P:α->Nat->Prop}(h:P a n):Ok (Mx.opt (some a)) n P:=⟨a,n,rfl,h⟩
theorem t_msome{a:α}{f:α->β}{P:β->Nat->Prop}(h:P (f a) n):Ok (Mx.opt ((some a).map f)) n P:=⟨f a,n,rfl,h⟩
theorem t_itt{a b:Mx α}{P:α->Nat->Prop}(h:Ok a n P):Ok (if true=true then a else b) n P:=by rw[if_pos rfl];exact h
theorem t_itf{a b:Mx α}{P:α->Nat->Prop}(h:Ok b n P):Ok (if false=true then a else b) n P:=by rw[if_neg (by decide)];exact h
theorem t_it1{a b:Mx α}{t:Bool}{P:α->Nat->Prop}(e:t=true)(h:Ok a n P):Ok (if t=true then a else b) n P:=by rw[if_pos e];exact h
theorem t_it0{a b:Mx α}{t:Bool}{P:α->Nat->Prop}(e:t=false)(h:Ok b n P):Ok (if t=true then a else b) n P:=by rw[if_neg (by rw[e];decide)];exact h
theorem t_seq{a b:Env'->Mx Out}{P:Out->Nat->Prop}(h:Ok (a ρ) n (kont b P)):Ok (sSeq a b ρ) n P:=ok_seq.mpr (h.imp fun o n' q=>by cases o<;>exact q)
theorem t_nx{b:Env'->Mx Out}{P:Out->Nat->Prop}(h:Ok (b ρ) n P):kont b P (.nx ρ) n:=h
theorem t_rt{b:Env'->Mx Out}{P:Out->Nat->Prop}{d:D}(h:P (.rt d) n):kont b P (.rt d) n:=h
theorem t_ort{P:D->Nat->Prop}{d:D}(h:P d n):outP P (.rt d) n:=h
theorem t_onx{P:D->Nat->Prop}(h:P (.p .none) n):outP P (.nx ρ) n:=h
theorem t_fn{nn ar:Nat}{m:Env'->Mx Out}{ds:List D}{P:D->Nat->Prop}(hl:ds.length=ar)(h:Ok (m (ds.map (fun d=>some (Sl.val d))++List.replicate (nn - ar) none)) n (outP P)):Ok (mFn nn ar m ds) n P:=
 yp hl (h.imp fun o n' q=>by cases o<;>exact q)
theorem t_set{i:Nat}{m:Env'->Mx D}{P:Out->Nat->Prop}(h:Ok (m ρ) n fun d n'=>P (.nx (ρ.set i (some (Sl.val d)))) n'):Ok (sSet i m ρ) n P:=t_bind (h.imp fun _ _ q=>t_pure q)
theorem t_own{i:Nat}{m:Env'->Mx PyData}{P:Out->Nat->Prop}(hl:Nat.ble (i+1) ρ.length=true)(h:Ok (m ρ) n fun d n'=>P (.nx (ρ.set i (some (Sl.own d)))) n'):Ok (sOwn i m ρ) n P:=t_bind (h.imp fun _ _ q=>by
 rw[if_pos (show i<ρ.length from Nat.le_of_ble_eq_true hl)];exact t_pure q)
theorem t_sret{m:Env'->Mx D}{P:Out->Nat->Prop}(h:Ok (m ρ) n fun d n'=>P (.rt d) n'):Ok (sRet m ρ) n P:=t_bind (h.imp fun _ _ q=>t_pure q)
theorem t_sexpr{m:Env'->Mx D}{P:Out->Nat->Prop}(h:Ok (m ρ) n fun _ n'=>P (.nx ρ) n'):Ok (sExpr m ρ) n P:=t_bind (h.imp fun _ _ q=>t_pure q)
theorem t_snil{P:Out->Nat->Prop}(h:P (.nx ρ) n):Ok (sNil ρ) n P:=t_pure h
theorem t_sif{c:Env'->Mx Bool}{a b:Env'->Mx Out}{P:Out->Nat->Prop}(h:Ok (c ρ) n fun t n'=>Ok (if t=true then a ρ else b ρ) n' P):Ok (sIf c a b ρ) n P:=t_bind h
theorem t_bin{f:PyData->PyData->Option PyData}{a b:Env'->Mx D}{P:D->Nat->Prop}(h:Ok (a ρ) n fun x n1=>Ok (b ρ) n1 fun y n2=>Ok (Mx.opt ((onP2 f x y).map D.p)) n2 P):Ok (mBin f a b ρ) n P:=t_bind (h.imp fun _ _ q=>t_bind q)
theorem t_p2{f:PyData->PyData->Option α}{g:α->β}{x y:PyData}{P:β->Nat->Prop}(h:Ok (Mx.opt ((f x y).map g)) n P):Ok (Mx.opt ((onP2 f (.p x) (.p y)).map g)) n P:=h
theorem t_p1{f:PyData->Option α}{g:α->β}{x:PyData}{P:β->Nat->Prop}(h:Ok (Mx.opt ((f x).map g)) n P):Ok (Mx.opt ((onP f (.p x)).map g)) n P:=h
theorem t_p1'{f:PyData->Option α}{x:PyData}{P:α->Nat->Prop}(h:Ok (Mx.opt (f x)) n P):Ok (Mx.opt (onP f (.p x))) n P:=h
theorem t_p2'{f:PyData->PyData->Option α}{x y:PyData}{P:α->Nat->Prop}(h:Ok (Mx.opt (f x y)) n P):Ok (Mx.opt (onP2 f (.p x) (.p y))) n P:=h
theorem t_map{o:Option PyData}{x:PyData}{P:D->Nat->Prop}(e:o=some x)(h:P (.p x) n):Ok (Mx.opt (o.map D.p)) n P:=by subst e;exact t_some h
theorem t_var{i:Nat}{d:D}{P:D->Nat->Prop}(e:slW ρ[i]?=some d)(h:P d n):Ok (mVar i ρ) n P:=uZ e h
theorem t_val{i:Nat}{d:D}{P:D->Nat->Prop}(e:slV ρ[i]?=some d)(h:P d n):Ok (mVal i ρ) n P:=uZ e h
theorem t_c{x:PyData}{P:D->Nat->Prop}(h:P (.p x) n):Ok (mC x ρ) n P:=t_pure h
theorem t_nil{P:List D->Nat->Prop}(h:P [] n):Ok (mNil ρ) n P:=t_pure h
theorem t_cons{m:Env'->Mx D}{ms:Env'->Mx (List D)}{P:List D->Nat->Prop}(h:Ok (m ρ) n fun x n1=>Ok (ms ρ) n1 fun xs n2=>P (x::xs) n2):Ok (mCons m ms ρ) n P:=t_bind (h.imp fun _ _ q=>t_bind (q.imp fun _ _ q=>t_pure q))
theorem t_call{F:List D->Mx D}{ms:Env'->Mx (List D)}{P:D->Nat->Prop}(h:Ok (ms ρ) n fun ds n'=>Ok (F ds) n' P):Ok (mCall F ms ρ) n P:=t_bind h
theorem t_callB{f:List PyData->Option PyData}{ms:Env'->Mx (List D)}{P:D->Nat->Prop}(h:Ok (ms ρ) n fun ds n'=>Ok (Mx.opt ((onPs f ds).map D.p)) n' P):Ok (mCallB f ms ρ) n P:=t_bind h
theorem t_b1{f:List PyData->Option α}{g:α->β}{x:PyData}{P:β->Nat->Prop}(h:Ok (Mx.opt ((f [x]).map g)) n P):Ok (Mx.opt ((onPs f [.p x]).map g)) n P:=h
theorem t_b1'{f:List PyData->Option α}{x:PyData}{P:α->Nat->Prop}(h:Ok (Mx.opt (f [x])) n P):Ok (Mx.opt (onPs f [.p x])) n P:=h
theorem t_b2'{f:List PyData->Option α}{x y:PyData}{P:α->Nat->Prop}(h:Ok (Mx.opt (f [x,y])) n P):Ok (Mx.opt (onPs f [.p x,.p y])) n P:=h
theorem t_mseq{j:List PyData->PyData}{ms:Env'->Mx (List D)}{P:PyData->Nat->Prop}(h:Ok (ms ρ) n fun ds n'=>Ok (Mx.opt ((toP ds).bind fun xs=>if xs.length<=lim then some (j xs)else none)) n' P):Ok (mSeq j ms ρ) n P:=t_bind h
theorem t_s0{j:List PyData->PyData}{P:PyData->Nat->Prop}(h:P (j []) n):Ok (Mx.opt ((toP []).bind fun xs=>if xs.length<=lim then some (j xs)else none)) n P:=uZ (by simp[toP,lim]) h
theorem t_s1{j:List PyData->PyData}{x:PyData}{P:PyData->Nat->Prop}(h:P (j [x]) n):Ok (Mx.opt ((toP [.p x]).bind fun xs=>if xs.length<=lim then some (j xs)else none)) n P:=uZ (by simp[toP,lim]) h
theorem t_s2{j:List PyData->PyData}{x y:PyData}{P:PyData->Nat->Prop}(h:P (j [x,y]) n):Ok (Mx.opt ((toP [.p x,.p y]).bind fun xs=>if xs.length<=lim then some (j xs)else none)) n P:=uZ (by simp[toP,lim]) h
theorem t_mp{m:Env'->Mx PyData}{P:D->Nat->Prop}(h:Ok (m ρ) n fun x n'=>P (.p x) n'):Ok (mP m ρ) n P:=t_bind (h.imp fun _ _ q=>t_pure q)
theorem t_test{m:Env'->Mx D}{P:Bool->Nat->Prop}(h:Ok (m ρ) n fun x n'=>Ok (Mx.opt (onB x)) n' P):Ok (mTest m ρ) n P:=t_bind h
theorem t_onb{b:Bool}{P:Bool->Nat->Prop}(h:P b n):Ok (Mx.opt (onB (.p (.bool b)))) n P:=t_some h
theorem t_tru{m:Env'->Mx D}{P:Bool->Nat->Prop}(h:Ok (m ρ) n fun x n'=>Ok (Mx.opt (onP truD x)) n' P):Ok (mTru m ρ) n P:=t_bind h
theorem t_trb{b:Bool}{P:Bool->Nat->Prop}(h:P b n):Ok (Mx.opt (onP truD (.p (.bool b)))) n P:=t_some h
theorem t_not{m:Env'->Mx Bool}{P:Bool->Nat->Prop}(h:Ok (m ρ) n fun b n'=>P (!b) n'):Ok (mNotT m ρ) n P:=t_bind (h.imp fun _ _ q=>t_pure q)
theorem t_and{a b:Env'->Mx Bool}{P:Bool->Nat->Prop}(h:Ok (a ρ) n fun t n'=>Ok (if t=true then b ρ else pure false) n' P):Ok (mAndT a b ρ) n P:=t_bind h
theorem t_or{a b:Env'->Mx Bool}{P:Bool->Nat->Prop}(h:Ok (a ρ) n fun t n'=>Ok (if t=true then pure true else b ρ) n' P):Ok (mOrT a b ρ) n P:=t_bind h
theorem t_andv{a b:Env'->Mx D}{P:D->Nat->Prop}(h:Ok (a ρ) n fun x n'=>Ok (Mx.opt (onB x)) n' fun t n2=>Ok (if t=true then b ρ else pure (.p (.bool false))) n2 P):Ok (mAndV a b ρ) n P:=t_bind (h.imp fun _ _ q=>t_bind q)
theorem t_mif{c:Env'->Mx Bool}{a b:Env'->Mx α}{P:α->Nat->Prop}(h:Ok (c ρ) n fun t n'=>Ok (if t=true then a ρ else b ρ) n' P):Ok (mIf c a b ρ) n P:=t_bind h
theorem t_rng{f:List PyData->Option (List PyData)}{ms:Env'->Mx (List D)}{P:List PyData->Nat->Prop}(h:Ok (ms ρ) n fun ds n'=>Ok (Mx.opt (onPs f ds)) n' P):Ok (mRng f ms ρ) n P:=t_bind h
theorem t_it{m:Env'->Mx D}{P:List PyData->Nat->Prop}(h:Ok (m ρ) n fun x n'=>Ok (Mx.opt (onP itD x)) n' P):Ok (mIt m ρ) n P:=t_bind h
theorem t_comp{mi:Env'->Mx (List PyData)}{mc:Env'->Mx Bool}{me:Env'->Mx D}{P:PyData->Nat->Prop}(h:Ok (mi ρ) n fun ds n'=>Ok (zS mc me ρ ds []) n' fun l n2=>P (.list l) n2):Ok (mComp mi mc me ρ) n P:=t_bind (h.imp fun _ _ q=>t_bind (q.imp fun _ _ q=>t_pure q))
theorem t_for{mi:Env'->Mx (List PyData)}{τ:Env'->PyData->Option Env'}{body:Env'->Mx Out}{P:Out->Nat->Prop}(h:Ok (mi ρ) n fun ds n'=>Ok (xA τ body ds ρ) n' P):Ok (sFor mi τ body ρ) n P:=t_bind h
end
section
variable{α:Type}{l:List α}
end
end L2
local macro_rules | `(tactic| walk_at "st1")=>do
 let nm (x:String):Lean.Ident:=Lean.mkIdent ("L2."++x).toName
 let a<-(("t_seq t_nx t_set t_call t_cons t_nil t_c t_bin t_p2 t_sif t_itt t_itf t_test t_onb t_sret t_rt t_ort t_onx t_snil t_mp t_callB t_b1 t_b1' t_b2' t_mseq t_s0 t_s1 t_s2 t_sexpr t_not t_and t_or t_andv t_mif t_rng t_it t_comp t_for t_tru t_trb t_p1 t_p1' t_p2' t_bind t_pure t_some t_msome").splitOn " ").toArray.mapM fun x=>`(tactic| refine $(nm x) ?_)
 let b<-(("t_var t_own t_val").splitOn " ").toArray.mapM fun x=>`(tactic| refine $(nm x) (by with_unfolding_all exact rfl) ?_)
 let c<-(("fAdd_int fSub_int fLt_int fCmp_int fEq_int fNe_int fIx_t0 fIx_t1 fLen_t fLen_l fTuple_l fIsi_bi fIsi_ii fIsi_tt").splitOn " ").toArray.mapM fun x=>`(tactic| refine $(nm "t_map") ($(nm x) ..) ?_)
 let d<-(("fLt_int").splitOn " ").toArray.mapM fun x=>`(tactic| refine $(nm "t_boo") ($(nm x) ..) ?_)
 let e<-(("t_it1 t_it0").splitOn " ").toArray.mapM fun x=>`(tactic| refine $(nm x) (by with_unfolding_all exact rfl) ?_)
 let l:=a++b++c++d++e
 `(tactic| with_reducible first $[| $l:tactic]*)
local macro_rules | `(tactic| walk_at "dl")=>do
 let l<-(("List.set_cons_zero List.set_cons_succ List.map List.cons_append List.nil_append List.replicate_succ List.replicate_zero Nat.reduceSub Option.map_some Option.bind_some Bool.not_true Bool.not_false").splitOn " ").toArray.mapM fun x=>`(Lean.Parser.Tactic.simpLemma| $(Lean.mkIdent x.toName):term)
 `(tactic| dsimp only[$l,*])
local macro_rules | `(tactic| walk_at "e")=>`(tactic| try first | (walk_at "st1";repeat walk_at "st1";(try (walk_at "dl";repeat walk_at "st1";try walk_at "dl"))) | (walk_at "dl";repeat walk_at "st1";try walk_at "dl"))
namespace L2
open PySem
theorem wO:∀{l r:List Int},l.Pairwise (·<·)->r.Pairwise (·<·)->(∀x,x∈l↔x∈r)->l=r
 | [],[],_,_,_=>rfl
 | [],y::r,_,_,h=>absurd ((h y).mpr List.mem_cons_self) (by simp)
 | x::l,[],_,_,h=>absurd ((h x).mp List.mem_cons_self) (by simp)
 | x::l,y::r,hl,hr,h=>by
  obtain⟨l1,l2⟩:=List.pairwise_cons.mp hl;obtain⟨r1,r2⟩:=List.pairwise_cons.mp hr;have e:x=y:=by
   rcases List.mem_cons.mp ((h x).mp List.mem_cons_self)with e | hx
   ·exact e
   ·rcases List.mem_cons.mp ((h y).mpr List.mem_cons_self)with e | hy
    ·exact e.symm
    ·have a:=r1 x hx;have b:=l1 y hy;omega
  subst e;congr 1;refine wO l2 r2 fun z=>⟨fun hz=>?_,fun hz=>?_⟩
  ·rcases List.mem_cons.mp ((h z).mp (List.mem_cons_of_mem _ hz))with e | hz'
   ·have:=l1 z hz;omega
   ·exact hz'
  ·rcases List.mem_cons.mp ((h z).mpr (List.mem_cons_of_mem _ hz))with e | hz'
   ·have:=r1 z hz;omega
   ·exact hz'
theorem z0p{P:Int->Prop}:∀l:List PyData,(∀d∈l,∃q,P q/\d=.int q)->∃qs:List Int,l=qs.map PyData.int
 | [],_=>⟨[],rfl⟩
 | d::r,h=>by
  obtain⟨q,_,rfl⟩:=h d List.mem_cons_self;obtain⟨qs,e⟩:=z0p r fun x hx=>h x (List.mem_cons_of_mem _ hx);exact⟨q::qs,by rw[e];rfl⟩
theorem z4X(a b:Int):HT.lexLt [a] [b]=true↔a<b:=by
 simp[HT.lexLt];omega
theorem z0U{α:Type}{l:List α}{k:Nat}(h:k<l.length):l.take (k+1)=l.take k++[l[k]]:=by rw[List.take_succ,List.getElem?_eq_getElem h];rfl
theorem xf{l:List Int}(hl:l.length<64):zk (l.map PyData.int)=true:=by
 unfold zk;rw[Bool.and_eq_true,Bool.or_eq_true];refine⟨.inl (List.all_eq_true.mpr fun d hd=>?_),by simpa using hl⟩;obtain⟨q,_,rfl⟩:=List.mem_map.mp hd;rfl
theorem uc(l:List Int):∃r:List Int,wG keyI (l.map PyData.int)=r.map PyData.int/\r.Perm l/\r.Pairwise (·<=·):=by
 have perm:=xD (key:=keyI) (l.map PyData.int);have pw:=yN (key:=keyI) (l.map PyData.int);obtain⟨r,e⟩:=z0p (P:=fun _=>True) (wG keyI (l.map PyData.int)) fun d hd=>by
  obtain⟨q,hq,rfl⟩:=List.mem_map.mp (perm.mem_iff.mp hd);exact⟨q,trivial,rfl⟩
 rw[e]at perm pw;refine⟨r,e,?_,(List.pairwise_map.mp pw).imp fun{a b} h=>?_⟩
 ·have:=perm.map (fun d=>match d with | PyData.int i=>i | _=>0);rw[List.map_map,List.map_map]at this;simpa[Function.comp_def]using this
 ·have h3:¬b<a:=fun z=>by
   have:=(z4X b a).mpr z;change HT.lexLt [b] [a]=false at h;rw[this]at h;cases h
  omega
theorem xc{l:List Int}(hl:l.length<64):∃r:List Int,zV [.list (l.map PyData.int)]=some (.list (r.map PyData.int))/\r.Perm l/\r.Pairwise (·<=·):=by
 obtain⟨r,e,h1,h2⟩:=uc l;exact⟨r,by simp only[zV,x6];rw[if_pos (xf hl),e],h1,h2⟩
theorem z1E{l:List Int}(hl:l.length<64):∃r:List Int,zV [.tuple (l.map PyData.int)]=some (.list (r.map PyData.int))/\r.Perm l/\r.Pairwise (·<=·):=by
 obtain⟨r,e,h1,h2⟩:=uc l;exact⟨r,by simp only[zV,x6];rw[if_pos (xf hl),e],h1,h2⟩
theorem z05{r l:List Int}(h:r.Pairwise (·<=·))(p:r.Perm l)(nd:l.Nodup):r.Pairwise (·<·):=
 (h.and (p.nodup_iff.mpr nd)).imp fun{a b} ⟨h1,h2⟩=>by omega
theorem zg{α:Type}(f:α->Bool):∀l:List α,yy (l.map fun x=>PyData.bool (f x))=some (l.map f)
 | []=>rfl
 | x::l=>by simp only[List.map_cons,yy,zg f l,Option.map_some]
theorem yY:∀l:List Int,zh (l.map PyData.int)=some l
 | []=>rfl
 | x::l=>by simp only[List.map_cons,zh,yY l,Option.map_some]
theorem yg{e:Env'->Mx D}{ρ:Env'}{n:Nat}{ds:List PyData}{P:List PyData->Nat->Prop}(f:PyData->PyData)(step:∀d∈ds,Ok (e (ρ++[some (Sl.val (.p d))])) n fun y n2=>y=.p (f d)/\n2=n)(h:P (ds.map f) n):Ok (zS mYes e ρ ds []) n P:=by
 refine z0L (f:=fun d=>some (f d)) (fun d hd=>.inr ⟨f d,rfl,?_⟩) ?_
 ·unfold mYes;exact(ok_pure _ _).mpr ⟨rfl,rfl,step d hd⟩
 ·rw[show ds.filterMap (fun d=>some (f d))=ds.map f by simp];exact h
theorem zf{α β:Type}{e:Env'->Mx D}{ρ:Env'}{n:Nat}{J:α->PyData}{J':β->PyData}{l:List α}{P:List PyData->Nat->Prop}(f:α->β)(step:∀a∈l,Ok (e (ρ++[some (Sl.val (.p (J a)))])) n fun y n2=>y=.p (J' (f a))/\n2=n)(h:P ((l.map f).map J') n):Ok (zS mYes e ρ (l.map J) []) n P:=by
 refine xy (I:=fun k acc n'=>n'=n/\acc=((l.take k).map f).map J') (fun k acc n' hk hI=>?_) (fun acc n' hI=>?_) ⟨rfl,by simp⟩
 ·obtain⟨rfl,rfl⟩:=hI;have hk':k<l.length:=by simpa using hk
  rw[List.getElem_map];unfold mYes;refine(ok_pure _ _).mpr ⟨fun _=>(step _ (List.getElem_mem hk')).imp fun y n2 ⟨e1,e2⟩=>⟨_,e1,e2,?_⟩,fun z=>(nomatch z)⟩;rw[z0U hk',List.map_append,List.map_append];rfl
 ·obtain⟨rfl,rfl⟩:=hI;rw[List.length_map,List.take_length];exact h
theorem z4k{α:Type}{c:Env'->Mx Bool}{e:Env'->Mx D}{ρ:Env'}{n:Nat}{J:α->PyData}{l:List α}{P:List PyData->Nat->Prop}(f:α->Bool)(hc:∀a∈l,Ok (c (ρ++[some (Sl.val (.p (J a)))])) n fun t n2=>t=f a/\n2=n)(he:∀a∈l,f a=true->Ok (e (ρ++[some (Sl.val (.p (J a)))])) n fun y n2=>y=.p (J a)/\n2=n)(h:P ((l.filter f).map J) n):Ok (zS c e ρ (l.map J) []) n P:=by
 refine xy (I:=fun k acc n'=>n'=n/\acc=((l.take k).filter f).map J) (fun k acc n' hk hI=>?_) (fun acc n' hI=>?_) ⟨rfl,by simp⟩
 ·obtain⟨rfl,rfl⟩:=hI;have hk':k<l.length:=by simpa using hk
  rw[List.getElem_map];refine(hc _ (List.getElem_mem hk')).imp fun t n2 ⟨e1,e2⟩=>?_;subst e1 e2;refine⟨fun ht=>(he _ (List.getElem_mem hk') ht).imp fun y n3 ⟨e3,e4⟩=>⟨_,e3,e4,?_⟩,fun ht=>⟨rfl,?_⟩⟩
  ·rw[z0U hk',List.filter_append,List.map_append];simp only[List.filter_cons,ht,List.filter_nil,if_true,List.map_cons,List.map_nil]
  ·rw[z0U hk',List.filter_append,List.map_append];simp only[List.filter_cons,ht,List.filter_nil,Bool.false_eq_true,if_false,List.map_nil,List.append_nil]
 ·obtain⟨rfl,rfl⟩:=hI;rw[List.length_map,List.take_length];exact h
theorem z18{l:List PyData}(h:l.length<10000):itD (.list l)=some l:=by simp only[itD];rw[if_pos (by unfold lim;omega)]
theorem z1o{l:List PyData}(h:l.length<10000):itD (.tuple l)=some l:=by simp only[itD];rw[if_pos (by unfold lim;omega)]
theorem z4T{α:Type}{R:α->α->Prop}{l:List α}(h:l.Pairwise R){i:Nat}{x y:α}(e1:l[i]?=some x)(e2:l[i+1]?=some y):R x y:=by
 obtain⟨h1,rfl⟩:=List.getElem?_eq_some_iff.mp e1;obtain⟨h2,rfl⟩:=List.getElem?_eq_some_iff.mp e2;exact List.pairwise_iff_getElem.mp h i (i+1) h1 h2 (Nat.lt_succ_self i)
noncomputable def upto(N:Nat):List Int:=(List.range N).map fun(i:Nat)=>(i:Int)
theorem mem_upto{N:Nat}{x:Int}:x∈upto N↔0<=x/\x<(N:Int):=by
 unfold upto;simp only[List.mem_map,List.mem_range];exact⟨fun⟨k,hk,e⟩=>by omega,fun h=>⟨x.toNat,by omega,by omega⟩⟩
theorem zN(N:Nat):(upto N).length=N:=by simp[upto]
theorem wS(N:Nat):(upto N).Pairwise (·<·):=by
 unfold upto;exact List.pairwise_map.mpr (List.pairwise_lt_range.imp fun h=>by omega)
theorem zX(m:Int)(h:0<=m):rngD 0 m=(upto m.toNat).map PyData.int:=by
 unfold rngD upto;simp[Function.comp_def]
theorem yL:∀l:List Int,PyData.canLayAll0 (l.map PyData.int)=true
 | []=>rfl
 | q::r=>by rw[List.map_cons];simp only[PyData.canLayAll0,yL r,Bool.and_true];rfl
theorem z02:∀l:List Int,PyData.depthAll (l.map PyData.int)<=1
 | []=>by simp[PyData.depthAll]
 | q::r=>by
  have:=z02 r;rw[List.map_cons];simp only[PyData.depthAll,PyData.depth];omega
theorem wn:∀l r:List Int,PyData.eqvAll (l.map PyData.int) (r.map PyData.int)=decide (l=r)
 | [],[]=>by simp[PyData.eqvAll]
 | [],y::r=>by simp[PyData.eqvAll]
 | x::l,[]=>by simp[PyData.eqvAll]
 | x::l,y::r=>by
  rw[List.map_cons,List.map_cons];simp only[PyData.eqvAll,yV,wn l r];by_cases e:x=y<;>by_cases e2:l=r<;>simp[e,e2]
theorem wp(neg:Bool)(l r:List Int):fEq neg (.list (l.map PyData.int)) (.list (r.map PyData.int))=some (.bool (if neg then !decide (l=r)else decide (l=r))):=by
 have d:=z02 l;unfold fEq;rw[if_pos ⟨by simp only[PyData.canLay0];exact yL l,by simp only[PyData.canLay0];exact yL r,by simp only[PyData.depth];omega⟩];simp only[PyData.eqv,wn]
theorem z3w(l:List Int):fEq true (.list (l.map PyData.int)) (.list [])=some (.bool (!l.isEmpty)):=by
 have:=wp true l [];rw[List.map_nil]at this;rw[this];cases l<;>rfl
theorem z2B(x:Int):∀c:List Int,((c.map PyData.int).any fun y=>PyData.eqv y (.int x))=decide (x∈c)
 | []=>by simp
 | y::c=>by
  rw[List.map_cons,List.any_cons,z2B x c,yV];by_cases e:y=x
  ·simp[e]
  ·by_cases e2:x∈c<;>simp[e,e2]<;>omega
theorem z2C(neg:Bool)(x:Int)(c:List Int):fIn neg (.int x) (.list (c.map PyData.int))=some (.bool (if neg then !decide (x∈c)else decide (x∈c))):=by
 simp only[fIn];rw[if_pos ⟨rfl,yL c,by simp[PyData.depth]⟩,z2B]
theorem wT{l:List Int}{i:Int}(h0:0<=i)(h:i<(l.length:Int)):fIx (.tuple (l.map PyData.int)) (.int i)=some (.int (l.getD i.toNat 0)):=by
 refine z0o h0 ?_;rw[List.getElem?_map,List.getElem?_eq_getElem (by omega),List.getD_eq_getElem?_getD,List.getElem?_eq_getElem (by omega)];rfl
theorem z4F{α:Type}{l:List α}{i:Nat}{d:α}(h:i<l.length):l.getD i d∈l:=by
 rw[List.getD_eq_getElem?_getD,List.getElem?_eq_getElem h];exact List.getElem_mem h
noncomputable def z9C(l:List Int):PyData:=.dict (l.map fun x=>(.int x,.bool true))
end L2
namespace MWeb
inductive Walk(E:Int->Int->Prop):Nat->Int->Int->Prop where
 | nil (p:Int):Walk E 0 p p
 | cons {d:Nat} {p m q:Int}:E p m->Walk E d m q->Walk E (d+1) p q
theorem Walk.snoc{E:Int->Int->Prop}:∀{d:Nat} {p m q:Int},Walk E d p m->E m q->Walk E (d+1) p q
 | _,_,_,_,.nil _,e=>.cons e (.nil _)
 | _,_,_,_,.cons h w,e=>.cons h (w.snoc e)
theorem Walk.append{E:Int->Int->Prop}:∀{d d2:Nat} {p m q:Int},Walk E d p m->Walk E d2 m q->Walk E (d+d2) p q
 | _,d2,_,_,_,.nil _,w=>by rw[Nat.zero_add];exact w
 | _,d2,_,_,_,.cons (d:=d) h w,v=>by
  rw[show d+1+d2=(d+d2)+1 by omega];exact .cons h (w.append v)
def Dist(E:Int->Int->Prop)(p q:Int)(d:Nat):Prop:=Walk E d p q/\∀d',Walk E d' p q->d<=d'
theorem Dist.uniq{E:Int->Int->Prop}{p q:Int}{a b:Nat}(x:Dist E p q a)(y:Dist E p q b):a=b:=
 Nat.le_antisymm (x.2 _ y.1) (y.2 _ x.1)
theorem few:∀(n:Nat) (l:List Int),l.Nodup->(∀x∈l,0<=x/\x<(n:Int))->l.length<=n
 | 0,l,_,h=>by
  cases l with
  | nil=>simp
  | cons x r=>have:=h x List.mem_cons_self;omega
 | n+1,l,nd,h=>by
  have ih:=few n (l.erase (n:Int)) (nd.erase _) fun x hx=>by
   have h1:=h x (List.mem_of_mem_erase hx);have h2:x≠(n:Int):=fun e=>by
    subst e;exact(nd.not_mem_erase) hx
   omega
  have:=List.length_erase (a:=(n:Int)) (l:=l);split at this<;>omega
inductive RW(E:Int->Int->Prop)(k:Nat):Nat->Int->Int->Prop where
 | nil (p:Int):RW E k 0 p p
 | edge {p q:Int}:E p q->RW E k 1 p q
 | cons {d:Nat} {p m q:Int}:E p m->m<(k:Int)->RW E k d m q->RW E k (d+1) p q
theorem RW.split{E:Int->Int->Prop}{k:Nat}:∀{d:Nat} {p q:Int},RW E (k+1) d p q->
  RW E k d p q\/∃d1 d2,d1+d2<=d/\RW E k d1 p k/\RW E k d2 k q
 | _,_,_,.nil p=>.inl (.nil p)
 | _,_,_,.edge e=>.inl (.edge e)
 | _,_,_,.cons (d:=d) (p:=p) (m:=m) (q:=q) e hm w=>by
  rcases w.split with w' | ⟨d1,d2,hd,w1,w2⟩
  ·by_cases hk:m<(k:Int)
   ·exact .inl (.cons e hk w')
   ·have:m=(k:Int):=by omega
    subst this;exact .inr ⟨1,d,by omega,.edge e,w'⟩
  ·by_cases hk:m<(k:Int)
   ·exact .inr ⟨d1+1,d2,by omega,.cons e hk w1,w2⟩
   ·have:m=(k:Int):=by omega
    subst this;exact .inr ⟨1,d2,by omega,.edge e,w2⟩
theorem RW.of{E:Int->Int->Prop}{n:Nat}(hE:∀p q,E p q->q<(n:Int)):∀{d:Nat} {p q:Int},Walk E d p q->RW E n d p q
 | _,_,_,.nil p=>.nil p
 | _,_,_,.cons e w=>.cons e (hE _ _ e) (RW.of hE w)
structure Tab(E:Int->Int->Prop)(n k:Nat)(F:Int->Int->Int):Prop where
 nn:∀i j,0<=i->i<(n:Int)->0<=j->j<(n:Int)->0<=F i j
 sound:∀i j,0<=i->i<(n:Int)->0<=j->j<(n:Int)->F i j<99->Walk E (F i j).toNat i j
 comp:∀i j,0<=i->i<(n:Int)->0<=j->j<(n:Int)->∀d,RW E k d i j->F i j<=(d:Int)
theorem Tab.start{E:Int->Int->Prop}{n:Nat}{F:Int->Int->Int}(hE:∀p q,E p q->0<=p/\p<(n:Int)/\0<=q/\q<(n:Int))
  (h0:∀i,F i i=0) (h1:∀i j,E i j->F i j=1) (h2:∀i j,i≠j->¬E i j->F i j=99) (hne:∀i j,E i j->i≠j):Tab E n 0 F:=by
 refine⟨fun i j _ _ _ _=>?_,fun i j _ _ _ _ hl=>?_,fun i j hi _ hj _ d w=>?_⟩
 ·by_cases e:i=j
  ·subst e;rw[h0];omega
  ·by_cases q:E i j
   ·rw[h1 _ _ q];omega
   ·rw[h2 _ _ e q];omega
 ·by_cases e:i=j
  ·subst e;rw[h0];exact .nil _
  ·by_cases q:E i j
   ·rw[h1 _ _ q];exact .cons q (.nil _)
   ·rw[h2 _ _ e q]at hl;omega
 ·cases w with
  | nil=>rw[h0];omega
  | edge e=>rw[h1 _ _ e];omega
  | cons e hm w=>have:=hE _ _ e;omega
structure Mid(E:Int->Int->Prop)(n k:Nat)(F0 F:Int->Int->Int)(done:Int->Int->Prop):Prop where
 nn:∀i j,0<=i->i<(n:Int)->0<=j->j<(n:Int)->0<=F i j
 sound:∀i j,0<=i->i<(n:Int)->0<=j->j<(n:Int)->F i j<99->Walk E (F i j).toNat i j
 le:∀i j,0<=i->i<(n:Int)->0<=j->j<(n:Int)->F i j<=F0 i j
 by_mid:∀i j,0<=i->i<(n:Int)->0<=j->j<(n:Int)->done i j->F i j<=F0 i k+F0 k j
theorem Mid.start{E:Int->Int->Prop}{n k:Nat}{F:Int->Int->Int}(T:Tab E n k F):Mid E n k F F (fun _ _=>False):=
 ⟨T.nn,T.sound,fun _ _ _ _ _ _=>Int.le_refl _,fun _ _ _ _ _ _ h=>h.elim⟩
theorem Mid.step{E:Int->Int->Prop}{n k:Nat}{F0 F:Int->Int->Int}{done:Int->Int->Prop}{a b:Int}(M:Mid E n k F0 F done)(hk:k<n)
  (ha:0<=a) (ha':a<(n:Int)) (hb:0<=b) (hb':b<(n:Int)) {v:Int}
  (hv:v=if F a k+F k b<F a b then F a k+F k b else F a b) :
  Mid E n k F0 (fun i j=>if i=a/\j=b then v else F i j) (fun i j=>done i j\/(i=a/\j=b)):=by
 have hk0:(0:Int)<=k:=by omega
 have hk1:(k:Int)<n:=by omega
 have n1:=M.nn a k ha ha' hk0 hk1;have n2:=M.nn k b hk0 hk1 hb hb';have n3:=M.nn a b ha ha' hb hb';have l1:=M.le a k ha ha' hk0 hk1;have l2:=M.le k b hk0 hk1 hb hb';have l3:=M.le a b ha ha' hb hb';refine⟨fun i j h1 h2 h3 h4=>?_,fun i j h1 h2 h3 h4 hl=>?_,fun i j h1 h2 h3 h4=>?_,fun i j h1 h2 h3 h4 hd=>?_⟩
 ·split
  ·rw[hv];split<;>omega
  ·exact M.nn i j h1 h2 h3 h4
 ·by_cases e:i=a/\j=b
  ·rw[if_pos e]at hl |-;obtain⟨rfl,rfl⟩:=e;by_cases c:F i k+F k j<F i j
   ·rw[if_pos c]at hv;subst hv;have w1:=M.sound i k h1 h2 hk0 hk1 (by omega);have w2:=M.sound k j hk0 hk1 h3 h4 (by omega)
    have:=w1.append w2
    rwa [show(F i k).toNat+(F k j).toNat=(F i k+F k j).toNat by omega]at this
   ·rw[if_neg c]at hv;subst hv;exact M.sound i j h1 h2 h3 h4 hl
  ·rw[if_neg e]at hl |-;exact M.sound i j h1 h2 h3 h4 hl
 ·split
  next e=>obtain⟨rfl,rfl⟩:=e;rw[hv];split<;>omega
  next=>exact M.le i j h1 h2 h3 h4
 ·by_cases e:i=a/\j=b
  ·rw[if_pos e];obtain⟨rfl,rfl⟩:=e;rw[hv];split<;>omega
  ·rw[if_neg e];rcases hd with hd | hd
   ·exact M.by_mid i j h1 h2 h3 h4 hd
   ·exact absurd hd e
theorem Mid.ends{E:Int->Int->Prop}{n k:Nat}{F0 F:Int->Int->Int}{done:Int->Int->Prop}(T:Tab E n k F0)(M:Mid E n k F0 F done)(hk:k<n)
  (all:∀i j,0<=i->i<(n:Int)->0<=j->j<(n:Int)->done i j):Tab E n (k+1) F:=by
 refine⟨M.nn,M.sound,fun i j h1 h2 h3 h4 d w=>?_⟩;rcases w.split with w | ⟨d1,d2,hd,w1,w2⟩
 ·exact Int.le_trans (M.le i j h1 h2 h3 h4) (T.comp i j h1 h2 h3 h4 d w)
 ·have a:=T.comp i k h1 h2 (by omega) (by omega) d1 w1;have b:=T.comp k j (by omega) (by omega) h3 h4 d2 w2;have c:=M.by_mid i j h1 h2 h3 h4 (all i j h1 h2 h3 h4);omega
theorem Mid.same{E:Int->Int->Prop}{n k:Nat}{F0 F F':Int->Int->Int}{done done':Int->Int->Prop}(M:Mid E n k F0 F done)
    (hF:∀i j,0<=i->i<(n:Int)->0<=j->j<(n:Int)->F' i j=F i j) (hd:∀i j,0<=i->i<(n:Int)->0<=j->j<(n:Int)->done' i j->done i j):Mid E n k F0 F' done':=
  ⟨fun i j a b c d=>by rw[hF i j a b c d];exact M.nn i j a b c d,fun i j a b c d=>by rw[hF i j a b c d];exact M.sound i j a b c d,
   fun i j a b c d=>by rw[hF i j a b c d];exact M.le i j a b c d,fun i j a b c d h=>by rw[hF i j a b c d];exact M.by_mid i j a b c d (hd i j a b c d h)⟩
theorem Tab.far{E:Int->Int->Prop}{n:Nat}{F:Int->Int->Int}(T:Tab E n n F){i j:Int}(h1:0<=i)(h2:i<(n:Int))(h3:0<=j)(h4:j<(n:Int))
  (hd:∀d,¬Walk E d i j):99<=F i j:=by
 by_cases c:F i j<99
 ·exact absurd (T.sound i j h1 h2 h3 h4 c) (hd _)
 ·omega
structure Bfs(E:Int->Int->Prop)(n:Nat)(st:Int)(f:List (Int×Int))(w:List Int):Prop where
 nd:(f.map (·.1)).Nodup
 inr:∀q d,(q,d)∈f->0<=q/\q<(n:Int)/\0<=d/\d<(f.length:Int)
 walk:∀q d,(q,d)∈f->Walk E d.toNat st q
 stt:(st,0)∈f
 wait:∀p∈w,∃d,(p,d)∈f
 sorted:w.Pairwise fun a b=>∀x y,(a,x)∈f->(b,y)∈f->x<=y
 near:∀p∈w,∀x q y,(p,x)∈f->(q,y)∈f->y<=x+1
 done:∀p d,(p,d)∈f->p∉w->∀q,E p q->∃d',(q,d')∈f/\d'<=d+1
structure Bft(E:Int->Int->Prop)(n:Nat)(st:Int)(f:List (Int×Int))(w:List Int)(place dp:Int)(l:List Int):Prop where
 nd:(f.map (·.1)).Nodup
 inr:∀q d,(q,d)∈f->0<=q/\q<(n:Int)/\0<=d/\d<(f.length:Int)
 walk:∀q d,(q,d)∈f->Walk E d.toNat st q
 stt:(st,0)∈f
 wait:∀p∈w,∃d,(p,d)∈f/\dp<=d
 sorted:w.Pairwise fun a b=>∀x y,(a,x)∈f->(b,y)∈f->x<=y
 pl:(place,dp)∈f
 near:∀q y,(q,y)∈f->y<=dp+1
 done:∀p d,(p,d)∈f->p∉w->p≠place->∀q,E p q->∃d',(q,d')∈f/\d'<=d+1
 here:∀q∈l,∃d',(q,d')∈f/\d'<=dp+1
theorem z3v{f:List (Int×Int)}(h:(f.map (·.1)).Nodup):∀{q a b:Int},(q,a)∈f->(q,b)∈f->a=b:=by
 induction f with
 | nil=>intro q a b h1;exact nomatch h1
 | cons x r ih=>
  intro q a b h1 h2;rw[List.map_cons,List.nodup_cons]at h;rcases List.mem_cons.mp h1 with e1 | m1
  ·rcases List.mem_cons.mp h2 with e2 | m2
   ·rw[<-e1]at e2;exact(Prod.mk.inj e2).2.symm
   ·exact absurd (List.mem_map.mpr ⟨_,m2,by rw[<-e1]⟩) h.1
  ·rcases List.mem_cons.mp h2 with e2 | m2
   ·exact absurd (List.mem_map.mpr ⟨_,m1,by rw[<-e2]⟩) h.1
   ·exact ih h.2 m1 m2
theorem Bfs.first{E:Int->Int->Prop}{n:Nat}{st:Int}(h0:0<=st)(h1:st<(n:Int)):Bfs E n st [(st,0)] [st]:=by
 refine⟨by simp,fun q d h=>?_,fun q d h=>?_,by simp,fun p hp=>?_,by simp,fun p hp x q y a b=>?_,fun p d h hp=>?_⟩
 ·simp at h;obtain⟨rfl,rfl⟩:=h;simp;omega
 ·simp at h;obtain⟨rfl,rfl⟩:=h;exact .nil _
 ·simp at hp;subst hp;exact⟨0,by simp⟩
 ·simp at a b;omega
 ·simp at h hp;exact absurd h.1 hp
theorem Bfs.take{E:Int->Int->Prop}{n:Nat}{st:Int}{f:List (Int×Int)}{p:Int}{w:List Int}(B:Bfs E n st f (p::w)):∃dp,(p,dp)∈f/\Bft E n st f w p dp []:=by
 obtain⟨dp,hp⟩:=B.wait p List.mem_cons_self;refine⟨dp,hp,⟨B.nd,B.inr,B.walk,B.stt,fun q hq=>?_,(List.pairwise_cons.mp B.sorted).2,hp,fun q y h=>B.near p List.mem_cons_self dp q y hp h,fun q d h hq hne=>?_,fun q hq=>nomatch hq⟩⟩
 ·obtain⟨d,hd⟩:=B.wait q (List.mem_cons_of_mem _ hq);exact⟨d,hd,(List.pairwise_cons.mp B.sorted).1 q hq dp d hp hd⟩
 ·exact B.done q d h fun z=>(List.mem_cons.mp z).elim hne hq
theorem Bft.old{E:Int->Int->Prop}{n:Nat}{st:Int}{f:List (Int×Int)}{w:List Int}{p dp q d:Int}{l:List Int}(B:Bft E n st f w p dp l)(h:(q,d)∈f):Bft E n st f w p dp (l++[q]):=
 ⟨B.nd,B.inr,B.walk,B.stt,B.wait,B.sorted,B.pl,B.near,B.done,fun x hx=>by
  rcases List.mem_append.mp hx with z | z
  ·exact B.here x z
  ·rw[List.mem_singleton.mp z];exact⟨d,h,B.near q d h⟩⟩
theorem Bft.new{E:Int->Int->Prop}{n:Nat}{st:Int}{f:List (Int×Int)}{w:List Int}{p dp q:Int}{l:List Int}(B:Bft E n st f w p dp l)(hq:∀d,(q,d)∉f)(h0:0<=q)(h1:q<(n:Int))(he:E p q):
  Bft E n st (f++[(q,dp+1)]) (w++[q]) p dp (l++[q]):=by
 have hp:=B.inr p dp B.pl;have up:∀{a b:Int},(a,b)∈f->(a,b)∈f++[(q,dp+1)]:=fun h=>List.mem_append_left _ h;have new:(q,dp+1)∈f++[(q,dp+1)]:=by simp
 have cs:∀{a b:Int},(a,b)∈f++[(q,dp+1)]->(a,b)∈f\/(a=q/\b=dp+1):=fun h=>by simpa using h
 have nd':((f++[(q,dp+1)]).map (·.1)).Nodup:=by
  rw[List.map_append,List.nodup_append];refine⟨B.nd,by simp,fun a ha b hb=>?_⟩;obtain⟨⟨x,y⟩,hm,rfl⟩:=List.mem_map.mp ha;simp at hb;subst hb;rintro rfl;exact hq _ hm
 refine⟨nd',fun a b h=>?_,fun a b h=>?_,up B.stt,fun a ha=>?_,?_,up B.pl,fun a b h=>?_,fun a b h hw hne x ex=>?_,fun a ha=>?_⟩
 ·rw[List.length_append,List.length_singleton];rcases cs h with h | ⟨rfl,rfl⟩
  ·have:=B.inr a b h;omega
  ·omega
 ·rcases cs h with h | ⟨rfl,rfl⟩
  ·exact B.walk a b h
  ·have:=(B.walk p dp B.pl).snoc he
   rwa [show dp.toNat+1=(dp+1).toNat by omega]at this
 ·rcases List.mem_append.mp ha with z | z
  ·obtain⟨d,hd,hl⟩:=B.wait a z;exact⟨d,up hd,hl⟩
  ·rw[List.mem_singleton.mp z];exact⟨dp+1,new,by omega⟩
 ·rw[List.pairwise_append];refine⟨?_,by simp,fun a ha b hb x y hx hy=>?_⟩
  ·refine B.sorted.imp_of_mem fun{a b} ha hb h x y hx hy=>?_;obtain⟨da,hda,_⟩:=B.wait a ha;obtain⟨db,hdb,_⟩:=B.wait b hb;rcases cs hx with hx | ⟨rfl,_⟩
   ·rcases cs hy with hy | ⟨rfl,_⟩
    ·exact h x y hx hy
    ·exact absurd hdb (hq _)
   ·exact absurd hda (hq _)
  ·rw[List.mem_singleton.mp hb]at hy;rcases cs hy with hy | ⟨_,rfl⟩
   ·exact absurd hy (hq _)
   ·rcases cs hx with hx | ⟨_,rfl⟩
    ·exact B.near a x hx
    ·omega
 ·rcases cs h with h | ⟨_,rfl⟩
  ·exact B.near a b h
  ·omega
 ·rcases cs h with h | ⟨rfl,_⟩
  ·obtain⟨d',hd,hl⟩:=B.done a b h (fun z=>hw (List.mem_append_left _ z)) hne x ex;exact⟨d',up hd,hl⟩
  ·exact absurd (List.mem_append_right _ (by simp)) hw
 ·rcases List.mem_append.mp ha with z | z
  ·obtain⟨d',hd,hl⟩:=B.here a z;exact⟨d',up hd,hl⟩
  ·rw[List.mem_singleton.mp z];exact⟨dp+1,new,by omega⟩
theorem Bft.ends{E:Int->Int->Prop}{n:Nat}{st:Int}{f:List (Int×Int)}{w:List Int}{p dp:Int}{l:List Int}(B:Bft E n st f w p dp l)(hl:∀q,E p q->q∈l):Bfs E n st f w:=by
 refine⟨B.nd,B.inr,B.walk,B.stt,fun q hq=>let⟨d,h,_⟩:=B.wait q hq;⟨d,h⟩,B.sorted,fun a ha x q y hx hy=>?_,fun a d h ha q e=>?_⟩
 ·obtain⟨d,hd,hl⟩:=B.wait a ha
  have:=z3v B.nd hd hx
  have:=B.near q y hy;omega
 ·by_cases hp:a=p
  ·subst hp
   have:=z3v B.nd h B.pl;subst this;exact B.here q (hl q e)
  ·exact B.done a d h ha hp q e
theorem Bfs.ends{E:Int->Int->Prop}{n:Nat}{st:Int}{f:List (Int×Int)}(B:Bfs E n st f []):∀{d:Nat} {q:Int},Walk E d st q->∃d',(q,d')∈f/\d'<=(d:Int):=by
 have gen:∀{d:Nat} {p q:Int},Walk E d p q->∀dp,(p,dp)∈f->∃d',(q,d')∈f/\d'<=dp+(d:Int):=by
  intro d p q w
  induction w with
  | nil p=>intro dp h;exact⟨dp,h,by omega⟩
  | cons e w ih=>
   intro dp h;obtain⟨d1,h1,l1⟩:=B.done _ dp h (by simp) _ e;obtain⟨d2,h2,l2⟩:=ih d1 h1;exact⟨d2,h2,by omega⟩
 intro d q w;obtain⟨d',h,l⟩:=gen w 0 B.stt;exact⟨d',h,by omega⟩
structure Found(E:Int->Int->Prop)(n:Nat)(st:Int)(f:List (Int×Int)):Prop where
 nd:(f.map (·.1)).Nodup
 len:f.length<=n
 some:∀q d,(q,d)∈f->0<=d/\d<(n:Int)/\Dist E st q d.toNat
 none:∀q,(∀d,(q,d)∉f)->∀d,¬Walk E d st q
theorem Bfs.len{E:Int->Int->Prop}{n:Nat}{st:Int}{f:List (Int×Int)}{w:List Int}(B:Bfs E n st f w):f.length<=n:=by
 have:=few n (f.map (·.1)) B.nd fun x hx=>by
  obtain⟨⟨q,d⟩,hm,rfl⟩:=List.mem_map.mp hx
  have:=B.inr q d hm;exact⟨this.1,this.2.1⟩
 simpa using this
theorem Bft.len{E:Int->Int->Prop}{n:Nat}{st:Int}{f:List (Int×Int)}{w:List Int}{p dp:Int}{l:List Int}(B:Bft E n st f w p dp l):f.length<=n:=by
 have:=few n (f.map (·.1)) B.nd fun x hx=>by
  obtain⟨⟨q,d⟩,hm,rfl⟩:=List.mem_map.mp hx
  have:=B.inr q d hm;exact⟨this.1,this.2.1⟩
 simpa using this
theorem Bfs.found{E:Int->Int->Prop}{n:Nat}{st:Int}{f:List (Int×Int)}(B:Bfs E n st f []):Found E n st f:=by
 have hl:=B.len;refine⟨B.nd,hl,fun q d h=>?_,fun q h d w=>?_⟩
 ·have i:=B.inr q d h;refine⟨i.2.2.1,by omega,B.walk q d h,fun d' w=>?_⟩;obtain⟨d2,h2,l2⟩:=B.ends w
  have:=z3v B.nd h h2;omega
 ·obtain⟨d2,h2,_⟩:=B.ends w;exact h _ h2
theorem z0m{E:Int->Int->Prop}{p q:Int}:∀(d:Nat),Walk E d p q->∃d',d'<=d/\Dist E p q d':=by
 intro d
 induction d using Nat.strongRecOn with
 | ind d ih=>
  intro w;by_cases h:∃d1,d1<d/\Walk E d1 p q
  ·obtain⟨d1,l1,w1⟩:=h;obtain⟨d',l',D⟩:=ih d1 l1 w1;exact⟨d',by omega,D⟩
  ·refine⟨d,Nat.le_refl _,w,fun d1 w1=>?_⟩;by_cases c:d1<d
   ·exact absurd ⟨d1,c,w1⟩ h
   ·omega
theorem Walk.last{E:Int->Int->Prop}:∀{d:Nat} {p q:Int},Walk E (d+1) p q->∃v,Walk E d p v/\E v q
 | 0,_,_,.cons e w=>by
  cases w;exact⟨_,.nil _,e⟩
 | d+1,_,_,.cons e w=>by
  obtain⟨v,w',e'⟩:=w.last;exact⟨v,.cons e w',e'⟩
theorem z6S{E:Int->Int->Prop}{N:Nat}(hE:∀p q,E p q->0<=q/\q<(N:Int)){p:Int}(hp:0<=p/\p<(N:Int)){q:Int}{d:Nat}(D:Dist E p q d):d<N:=by
 have key:∀(d:Nat) (q:Int),Dist E p q d->∃l:List Int,l.length=d+1/\l.Nodup/\∀x∈l,(0<=x/\x<(N:Int))/\∃k,k<=d/\Dist E p x k:=by
  intro d
  induction d with
  | zero=>
   intro q D;have e:p=q:=by cases D.1;rfl
   subst e;exact⟨[p],rfl,by simp,fun x hx=>by rw[List.mem_singleton.mp hx];exact⟨hp,0,Nat.le_refl _,D⟩⟩
  | succ d ih=>
   intro q D;obtain⟨v,w,e⟩:=D.1.last;have Dv:Dist E p v d:=⟨w,fun d' w'=>by have:=D.2 _ (w'.snoc e);omega⟩;obtain⟨l,h1,h2,h3⟩:=ih v Dv;refine⟨q::l,by simp[h1],List.nodup_cons.mpr ⟨fun m=>?_,h2⟩,fun x hx=>?_⟩
   ·obtain⟨_,k,hk,Dk⟩:=h3 q m
    have:=Dk.uniq D;omega
   ·rcases List.mem_cons.mp hx with rfl | hx
    ·exact⟨hE _ _ e,d+1,Nat.le_refl _,D⟩
    ·obtain⟨a,k,hk,Dk⟩:=h3 x hx;exact⟨a,k,by omega,Dk⟩
 obtain⟨l,h1,h2,h3⟩:=key d q D
 have:=few N l h2 fun x hx=>(h3 x hx).1;omega
def z6Y(E:Int->Int->Prop)(x y:Int):Prop:=E (x / 2) (y / 2)/\x % 2≠y % 2
theorem uq{E:Int->Int->Prop}:∀{d:Nat} {p q:Int} (b:Int),(b=0\/b=1)->Walk E d p q->Walk (z6Y E) d (2*p+b) (2*q+(b+d) % 2)
 | 0,_,_,b,hb,.nil p=>by
  have:(b+((0:Nat):Int)) % 2=b:=by omega
  rw[this];exact .nil _
 | d+1,p,q,b,hb,.cons (m:=m) e w=>by
  have ih:=uq (1 - b) (by omega) w;have e2:(1 - b+(d:Int)) % 2=(b+((d+1:Nat):Int)) % 2:=by omega
  rw[e2]at ih;refine .cons ⟨?_,by omega⟩ ih;rw[show(2*p+b) / 2=p by omega,show(2*m+(1 - b)) / 2=m by omega];exact e
theorem z0x{E:Int->Int->Prop}:∀{d:Nat} {x y:Int},Walk (z6Y E) d x y->Walk E d (x / 2) (y / 2)/\(x+d) % 2=y % 2
 | _,_,_,.nil x=>⟨.nil _,by omega⟩
 | _,_,_,.cons (d:=d) e w=>by
  obtain⟨h1,h2⟩:=z0x w;obtain⟨e1,e2⟩:=e;exact⟨.cons e1 h1,by omega⟩
theorem z2y{E:Int->Int->Prop}{n:Nat}(hE:∀p q,E p q->0<=q/\q<(n:Int)){p q:Int}(hp:0<=p/\p<(n:Int)){d:Nat}(w:Walk E d p q):∃d',d'<2*n/\d' % 2=d % 2/\Walk E d' p q:=by
 have w2:=uq 0 (.inl rfl) w;obtain⟨d',_,D⟩:=z0m d w2;have lt:=z6S (E:=z6Y E) (N:=2*n) (fun x y h=>by have:=hE _ _ h.1;omega) (by omega) D;obtain⟨h1,h2⟩:=z0x D.1;refine⟨d',lt,by omega,?_⟩
 rwa [show(2*p+0) / 2=p by omega,show(2*q+(0+(d:Int)) % 2) / 2=q by omega]at h1
theorem z0h{E:Int->Int->Prop}{g v:Int}(h1:E g v)(h2:E v g){p:Int}{m:Nat}(w:Walk E m p g):∀k,Walk E (m+2*k) p g
 | 0=>w
 | k+1=>by
  have:=((z0h h1 h2 w k).snoc h1).snoc h2
  rwa [show m+2*k+1+1=m+2*(k+1) by omega]at this
theorem z0l{E:Int->Int->Prop}{n:Nat}(hE:∀p q,E p q->0<=q/\q<(n:Int))(sym:∀p q,E p q->E q p){ns:List Int}(hns:∀p∈ns,0<=p/\p<(n:Int))(hne:ns≠[]){m:Nat}{g:Int}(h:∀p∈ns,Walk E m p g):
  ∃m',m'<2*n/\∀p∈ns,Walk E m' p g:=by
 have key:∀l:List Int,(∀p∈l,p∈ns)->l≠[]->∃M,M<2*n/\M % 2=m % 2/\(∃p∈l,Walk E M p g)/\∀p∈l,∃k,k<=M/\k % 2=m % 2/\Walk E k p g:=by
  intro l
  induction l with
  | nil=>intro _ hn;exact absurd rfl hn
  | cons p l ih=>
   intro hl _;obtain⟨d,d1,d2,d3⟩:=z2y hE (hns p (hl p List.mem_cons_self)) (h p (hl p List.mem_cons_self));cases l with
   | nil=>exact⟨d,d1,d2,⟨p,by simp,d3⟩,fun x hx=>by rw[List.mem_singleton.mp hx];exact⟨d,Nat.le_refl _,d2,d3⟩⟩
   | cons p2 l2=>
    obtain⟨M,m1,m2,⟨x,hx,wx⟩,m4⟩:=ih (fun y hy=>hl y (List.mem_cons_of_mem _ hy)) (by simp);by_cases c:d<=M
    ·refine⟨M,m1,m2,⟨x,List.mem_cons_of_mem _ hx,wx⟩,fun y hy=>?_⟩;rcases List.mem_cons.mp hy with rfl | hy
     ·exact⟨d,c,d2,d3⟩
     ·exact m4 y hy
    ·refine⟨d,d1,d2,⟨p,List.mem_cons_self,d3⟩,fun y hy=>?_⟩;rcases List.mem_cons.mp hy with rfl | hy
     ·exact⟨d,Nat.le_refl _,d2,d3⟩
     ·obtain⟨k,k1,k2,k3⟩:=m4 y hy;exact⟨k,by omega,k2,k3⟩
 obtain⟨M,m1,m2,⟨x,hx,wx⟩,m4⟩:=key ns (fun _ h=>h) hne;refine⟨M,m1,fun p hp=>?_⟩;obtain⟨k,k1,k2,k3⟩:=m4 p hp;cases M with
 | zero=>
  have:k=0:=by omega
  subst this;exact k3
 | succ M=>
  obtain⟨v,_,e⟩:=wx.last
  have:=z0h (sym _ _ e) e k3 ((M+1 - k) / 2)
  rwa [show k+2*((M+1 - k) / 2)=M+1 by omega]at this
end MWeb
namespace Bt
open PySem
theorem b_isinstance:bootBuiltins "isinstance"=some (.builtin "isinstance"):=by decide +kernel
theorem b_all:bootBuiltins "all"=some (.builtin "all"):=by decide +kernel
theorem b_any:bootBuiltins "any"=some (.builtin "any"):=by decide +kernel
theorem b_sum:bootBuiltins "sum"=some (.builtin "sum"):=by decide +kernel
theorem b_min:bootBuiltins "min"=some (.builtin "min"):=by decide +kernel
theorem b_max:bootBuiltins "max"=some (.builtin "max"):=by decide +kernel
theorem b_len:bootBuiltins "len"=some (.builtin "len"):=by decide +kernel
theorem b_sorted:bootBuiltins "sorted"=some (.builtin "sorted"):=by decide +kernel
theorem b_bool:bootBuiltins "bool"=some (.type "bool"):=by decide +kernel
theorem b_int:bootBuiltins "int"=some (.type "int"):=by decide +kernel
theorem b_tuple:bootBuiltins "tuple"=some (.type "tuple"):=by decide +kernel
theorem b_list:bootBuiltins "list"=some (.type "list"):=by decide +kernel
theorem b_dict:bootBuiltins "dict"=some (.type "dict"):=by decide +kernel
theorem b_range:bootBuiltins "range"=some (.type "range"):=by decide +kernel
end Bt
namespace L2
open PySem
section
variable{X:Cx}{K:W.Frag}
theorem ixT(h:X.K=K:=by rfl):IxR X (rIxT K):=h▸ix_tup
theorem ixL(h:X.K=K:=by rfl):IxR X (rIxL K):=h▸ix_list
theorem piT{tg l:Expr}{tl:TE}(hl:PE X l tl)(h:X.K=K:=by rfl):PI X tg l (iTup K tl):=by subst h;exact z7U hl
end
end L2
namespace Gw
open PySem L2
set_option hygiene false
set_option compiler.extract_closed false
def tmTab:String:=""
def tmArg:Nat->Lean.MacroM Lean.Term
  | _=>Lean.Macro.throwUnsupported
def tmSub(p:List String)(w:String):List String:=match w.splitOn "$" with
  | [a,b]=>[a++p.getD ((b.take 1).toString.toNat!) ""++(b.drop 1).toString]
  | _=>
    let r:=(w.drop 1).toString
    if w.startsWith "%" then [p.getD r.toNat! ""]
    else if w.startsWith "_" then List.replicate (r.toNat?.getD 1) "_"
    else if w.startsWith "?" then List.replicate (r.toNat?.getD 1) "?"
    else [w]
def tmApp(a:Array Lean.Term):Lean.Term:=if a.size == 1 then a[0]! else Lean.Syntax.mkApp a[0]! (a.extract 1 a.size)
def tmList:Nat->List String->Array Lean.Term->Lean.MacroM (Array Lean.Term×List String)
  | f+1,w::r,a=>do
    if w == ")" then return (a,r)
    let t:=(w.drop 1).toString
    if w == "(" || w == "[" || w.startsWith "{" then
      let(b,r)<-tmList f r #[]
      let e<-if w == "[" then `([$b,*])else if w == "(" then `(($(tmApp b)))else pure ⟨Lean.mkNode ``Lean.Parser.Term.namedArgument #[Lean.mkAtom "(",Lean.mkIdent t.toName,Lean.mkAtom ":=",tmApp b,Lean.mkAtom ")"]⟩
      tmList f r (a.push e)
    else
      let e<-if w == "_" then `(_)else if w == "?" then `(?_)else if w.startsWith "#" then tmArg t.toNat! else if w.startsWith (String.ofList [Char.ofNat 39])then pure ⟨Lean.Syntax.mkStrLit t⟩
        else if w.startsWith "@" then `(@$(Lean.mkIdent t.toName))else if w.startsWith "." then pure ⟨Lean.mkNode ``Lean.Parser.Term.dotIdent #[Lean.mkAtom ".",Lean.mkIdent t.toName]⟩
        else if w.isNat then pure (Lean.Syntax.mkNumLit w)else pure (Lean.mkIdent w.toName)
      tmList f r (a.push e)
  | _,_,a=>return (a,[])
def tmOne(x:String):Lean.MacroM (Lean.TSyntax `tactic×Nat):=do
  let p:=x.splitOn ","
  let c:=p.headD ""
  let some row:=(tmTab.splitOn "|").find? fun r=>r.startsWith (c++" ") | Lean.Macro.throwUnsupported
  let ws:=(row.splitOn " ").drop 1
  let f<-`(@$(Lean.mkIdent (ws.getD 2 "").toName))
  let(as,_)<-tmList 1000 ((ws.drop 3).flatMap (tmSub (p.drop 1))) #[]
  let e:=Lean.Syntax.mkApp f as
  let h:=(ws.getD 1 "").toNat!
  if ws.headD "" == "R" then return (<-`(tactic| refine $e),h)else return (<-`(tactic| exact $e),h)
def tmGo:Nat->List String->Lean.MacroM (Lean.TSyntax `tactic×List String)
  | f+1,x::r=>do
    let(t,k)<-tmOne x
    let mut a:=#[t]
    let mut r:=r
    for j in [0:k] do
      let(u,r2)<-tmGo f r
      r:=r2
      a:=a.push (<-if j+1<k then `(tactic| · $u:tactic)else pure u)
    return (<-`(tactic| ($[$a:tactic];*)),r)
  | _,_=>Lean.Macro.throwUnsupported
local macro_rules | `(tactic| walk_at $s:str)=>do
  match s.getString.splitOn " " with
  | "!"::r=>return (<-tmGo 1000 r).1
  | _=>Lean.Macro.throwUnsupported
set_option hygiene true
noncomputable def top(i:Nat):Stmt:=PySem.Challenge.pw_gatherall_k11_whole_renamed_webs.main.body.getD i (.Pass ⟨0,0,0,0⟩)
theorem z97:FnScope ["thing","least","most"] ["thing","least","most"] (z5 (top 7)):=⟨rfl,rfl,rfl,by decide +kernel,rfl,by decide +kernel,by decide +kernel⟩
theorem z8r:FnScope ["thing","least","most"] ["thing","least","most"] (z5 (top 8)):=⟨rfl,rfl,rfl,by decide +kernel,rfl,by decide +kernel,by decide +kernel⟩
theorem z90:FnScope ["things"] ["things"] (z5 (top 9)):=⟨rfl,rfl,rfl,by decide +kernel,rfl,by decide +kernel,by decide +kernel⟩
theorem z8w:FnScope ["thing","many"] ["thing","many"] (z5 (top 10)):=⟨rfl,rfl,rfl,by decide +kernel,rfl,by decide +kernel,by decide +kernel⟩
theorem z9A:FnScope ["thing","many"] ["thing","many"] (z5 (top 11)):=⟨rfl,rfl,rfl,by decide +kernel,rfl,by decide +kernel,by decide +kernel⟩
theorem z8v:FnScope ["thing","many"] ["thing","many"] (z5 (top 12)):=⟨rfl,rfl,rfl,by decide +kernel,rfl,by decide +kernel,by decide +kernel⟩
theorem z8Z:FnScope ["thing"] ["thing"] (z5 (top 13)):=⟨rfl,rfl,rfl,by decide +kernel,rfl,by decide +kernel,by decide +kernel⟩
theorem z8Y:FnScope ["thing"] ["thing"] (z5 (top 14)):=⟨rfl,rfl,rfl,by decide +kernel,rfl,by decide +kernel,by decide +kernel⟩
theorem z95:FnScope ["web"] ["web"] (z5 (top 15)):=⟨rfl,rfl,rfl,by decide +kernel,rfl,by decide +kernel,by decide +kernel⟩
theorem z8n:FnScope ["places","many"] ["places","many"] (z5 (top 16)):=⟨rfl,rfl,rfl,by decide +kernel,rfl,by decide +kernel,by decide +kernel⟩
theorem z8Q:FnScope ["names","many"] ["names","many"] (z5 (top 17)):=⟨rfl,rfl,rfl,by decide +kernel,rfl,by decide +kernel,by decide +kernel⟩
theorem sc_q11:FnScope ["web","names","ties"] ["web","names"] (z5 (top 19)):=⟨rfl,rfl,rfl,by decide +kernel,rfl,by decide +kernel,by decide +kernel⟩
theorem z8P:FnScope ["web","places"] ["web","places"] (z5 (top 21)):=⟨rfl,rfl,rfl,by decide +kernel,rfl,by decide +kernel,by decide +kernel⟩
theorem sc_q13:FnScope ["web","tied","tie"] ["web"] (z5 (top 22)):=⟨rfl,rfl,rfl,by decide +kernel,rfl,by decide +kernel,by decide +kernel⟩
theorem sc_q14:FnScope ["tied","start","far","waiting","place","other"] ["tied","start"] (z5 (top 23)):=⟨rfl,rfl,rfl,by decide +kernel,rfl,by decide +kernel,by decide +kernel⟩
theorem sc_q15:FnScope ["web","places","tied","far","common"] ["web","places"] (z5 (top 24)):=⟨rfl,rfl,rfl,by decide +kernel,rfl,by decide +kernel,by decide +kernel⟩
theorem sc_q16:FnScope ["web","places","ways"] ["web","places"] (z5 (top 25)):=⟨rfl,rfl,rfl,by decide +kernel,rfl,by decide +kernel,by decide +kernel⟩
theorem z7P:FnScope ["tied","could_be"] ["tied","could_be"] (z5 (top 26)):=⟨rfl,rfl,rfl,by decide +kernel,rfl,by decide +kernel,by decide +kernel⟩
theorem sc_q18:FnScope ["web","places","tied","could_be","moves","place"] ["web","places"] (z5 (top 27)):=⟨rfl,rfl,rfl,by decide +kernel,rfl,by decide +kernel,by decide +kernel⟩
theorem sc_bar:FnScope ["web","places","far"] ["web","places"] (z5 (top 28)):=⟨rfl,rfl,rfl,by decide +kernel,rfl,by decide +kernel,by decide +kernel⟩
theorem sc_q19:FnScope ["web","places","ways"] ["web","places"] (z5 (top 30)):=⟨rfl,rfl,rfl,by decide +kernel,rfl,by decide +kernel,by decide +kernel⟩
theorem sc_q20:FnScope ["web","ways","least"] ["web"] (z5 (top 31)):=⟨rfl,rfl,rfl,by decide +kernel,rfl,by decide +kernel,by decide +kernel⟩
theorem z7V:FnScope ["_law_script","_law_k"] ["_law_script","_law_k"] (z5 (top 33)):=⟨rfl,rfl,rfl,by decide +kernel,rfl,by decide +kernel,by decide +kernel⟩
theorem sc_q22:FnScope ["_law_script","_law_k","_law_many","_law_drawn"] ["_law_script","_law_k","_law_many"] (z5 (top 34)):=⟨rfl,rfl,rfl,by decide +kernel,rfl,by decide +kernel,by decide +kernel⟩
theorem z7L:FnScope ["_law_script","_law_town","_law_many"] ["_law_script","_law_town","_law_many"] (z5 (top 35)):=⟨rfl,rfl,rfl,by decide +kernel,rfl,by decide +kernel,by decide +kernel⟩
theorem sc_q25:FnScope ["_law_script","_law_town","_law_low","_law_most","_law_share","_law_many","_law_ties","_law_one"] ["_law_script","_law_town","_law_low","_law_most"] (z5 (top 37)):=⟨rfl,rfl,rfl,by decide +kernel,rfl,by decide +kernel,by decide +kernel⟩
theorem sc_q26:FnScope ["_law_script","_law_town","_law_many","_law_left","_law_made"] ["_law_script","_law_town","_law_many"] (z5 (top 38)):=⟨rfl,rfl,rfl,by decide +kernel,rfl,by decide +kernel,by decide +kernel⟩
theorem sc_q27:FnScope ["_law_script","_law_town","_law_many","_law_some"] ["_law_script","_law_town","_law_many"] (z5 (top 39)):=⟨rfl,rfl,rfl,by decide +kernel,rfl,by decide +kernel,by decide +kernel⟩
theorem sc_law:FnScope ["_law_script","_law_town","_law_web_here","_law_names_here","_law_places_here","_law_made","_law_due","_law_one","_law_other","_law_ends","_law_back","_law_some","_law_ask","_law_mine","_law_its"] ["_law_script"] (z5 (top 40)):=⟨rfl,rfl,rfl,by decide +kernel,rfl,by decide +kernel,by decide +kernel⟩
set_option genInjectivity false in
set_option genSizeOfSpec false in
structure Adr where
 (f_q0 f_q1 f_q2 f_q3 f_q4 f_q5 f_q6 f_q7 f_q8 f_q9 f_q10 f_q11 f_q12 f_q13 f_q14 f_q15 f_q16 f_q17 f_q18 f_bar f_q19 f_q20 f_q21 f_q22 f_q23 f_q25 f_q26 f_q27 f_law:Fn1)
structure Txt(K:W.Frag)(mg:Str->Option Value)(t:Adr):Prop where
 f_q0:FT K mg "is_number" ["thing","least","most"] (top 7) t.f_q0
 f_q1:FT K mg "are_numbers" ["thing","least","most"] (top 8) t.f_q1
 f_q2:FT K mg "is_rising" ["things"] (top 9) t.f_q2
 f_q3:FT K mg "are_places" ["thing","many"] (top 10) t.f_q3
 f_q4:FT K mg "is_tie" ["thing","many"] (top 11) t.f_q4
 f_q5:FT K mg "is_each_once" ["thing","many"] (top 12) t.f_q5
 f_q6:FT K mg "is_number_and_tuple" ["thing"] (top 13) t.f_q6
 f_q7:FT K mg "is_web" ["thing"] (top 14) t.f_q7
 f_q8:FT K mg "need_web" ["web"] (top 15) t.f_q8
 f_q9:FT K mg "need_places" ["places","many"] (top 16) t.f_q9
 f_q10:FT K mg "need_each_once" ["names","many"] (top 17) t.f_q10
 f_q11:FT K mg "renamed_web" ["web","names"] (top 19) t.f_q11
 f_q12:FT K mg "need_web_and_places" ["web","places"] (top 21) t.f_q12
 f_q13:FT K mg "tied_places" ["web"] (top 22) t.f_q13
 f_q14:FT K mg "fewest_steps" ["tied","start"] (top 23) t.f_q14
 f_q15:FT K mg "ways_to_places" ["web","places"] (top 24) t.f_q15
 f_q16:FT K mg "steps" ["web","places"] (top 25) t.f_q16
 f_q17:FT K mg "one_move_on" ["tied","could_be"] (top 26) t.f_q17
 f_q18:FT K mg "rounds" ["web","places"] (top 27) t.f_q18
 f_bar:FT K mg "bar" ["web","places"] (top 28) t.f_bar
 f_q19:FT K mg "rest_rounds" ["web","places"] (top 30) t.f_q19
 f_q20:FT K mg "middle" ["web"] (top 31) t.f_q20
 f_q21:FT K mg "_law_cell_at" ["_law_script","_law_k"] (top 33) t.f_q21
 f_q22:FT K mg "_law_mixed" ["_law_script","_law_k","_law_many"] (top 34) t.f_q22
 f_q23:FT K mg "_law_draw" ["_law_script","_law_town","_law_many"] (top 35) t.f_q23
 f_q25:FT K mg "_law_web" ["_law_script","_law_town","_law_low","_law_most"] (top 37) t.f_q25
 f_q26:FT K mg "_law_names" ["_law_script","_law_town","_law_many"] (top 38) t.f_q26
 f_q27:FT K mg "_law_places" ["_law_script","_law_town","_law_many"] (top 39) t.f_q27
 f_law:FT K mg "law" ["_law_script"] (top 40) t.f_law
 b_isinstance:mg "isinstance"=none
 b_bool:mg "bool"=none
 b_int:mg "int"=none
 b_tuple:mg "tuple"=none
 b_list:mg "list"=none
 b_all:mg "all"=none
 b_any:mg "any"=none
 b_range:mg "range"=none
 b_len:mg "len"=none
 b_sum:mg "sum"=none
 b_sorted:mg "sorted"=none
 b_min:mg "min"=none
 b_max:mg "max"=none
 b_dict:mg "dict"=none
 g_q30:∃u,mg "MOST_PLACES"=some u/\RelV (.int 8) u
noncomputable def z71:Int:=8
section
variable{P:Program}{w:World}{K:W.Frag}{mg:Str->Option Value}{base:Heap}{t:Adr}
noncomputable def b_q0:Env'->Mx Out:=(sSeq (sIf (mOrT (mTru (mUn (fIsi "bool") (mVar 0))) (mNotT (mTru (mUn (fIsi "int") (mVar 0))))) (sRet (mC (.bool false))) sNil)
 (sRet (mChain (fCmp fun i j=>decide (i<=j)) (fCmp fun i j=>decide (i<=j)) (mVar 1) (mVar 0) (mVar 2))))
noncomputable def F_q0:List D->Mx D:=mFn 3 3 b_q0
theorem z7l(T:Txt K mg t):FnOk P w K mg base CX0 1 t.f_q0.a t.f_q0.d ["thing","least","most"] (spD K EW0 F_q0):=by
 refine zZ (m:=b_q0) T.f_q0.F z97 rfl rfl rfl fun cdv A outer s H E hr=>?_;have hu:=y0 hr;unfold b_q0;exact(zC (xL (DPW.dt (ui (zt (DE.w (z1Q z54 (yD xg (by rfl) T.b_isinstance Bt.b_isinstance (zK (z7 (pv 0)) (zK (u6 (v:=.ty "bool") (by rfl) T.b_bool Bt.b_bool rfl) pa_nil))))) (fun _=>rfl)) (w5 (uu (zt (DE.w (z1Q z6y (yD xg (by rfl) T.b_isinstance Bt.b_isinstance (zK (z7 (pv 0)) (zK (u6 (v:=.ty "int") (by rfl) T.b_int Bt.b_int rfl) pa_nil))))) (fun _=>rfl)))))) (zI (zQ (DE.w z1I))) yB)
   (zI (zQ (DE.w (z5O (z1X z8I) (z1X z8I) (z7 (pv 1)) (z7 (pv 0)) (z7 (pv 2)))))))
noncomputable def b_q2:Env'->Mx Out:=(sRet (mCallB (zn fun bs=>bs.all id) (mCons (mP (mComp (mRng yW (mCons (mBin fSub (mCallB fLen (mCons (mVar 0) mNil)) (mC (.int 1))) mNil)) mYes (mBin fLt (mBin fIx (mVar 0) (mVar 1)) (mBin fIx (mVar 0) (mBin fAdd (mVar 1) (mC (.int 1))))))) mNil)))
noncomputable def F_q2:List D->Mx D:=mFn 1 1 b_q2
theorem z7h(T:Txt K mg t):FnOk P w K mg base CX0 1 t.f_q2.a t.f_q2.d ["things"] (spD K EW0 F_q2):=by
 refine zZ (m:=b_q2) T.f_q2.F z90 rfl rfl rfl fun cdv A outer s H E hr=>?_;have hu:=y0 hr;unfold b_q2;exact(zI (zQ (DE.w (zM (uh rfl) (by rfl) T.b_all Bt.b_all (z8 (DE.w (DF.de (zz (N:=["things"]) (sc:=(z5 (top 9))) (N':=["things","k"]) rfl rfl rfl (by decide +kernel) zW (yJ (by rfl) T.b_range (z8 (DE.w (zm z0J (DE.w (zM ug (by rfl) T.b_len Bt.b_len (z8 (z7 (pv 0)) zE))) (DE.w zD))) zE)) (fun _ _ _ _=>yM) (fun _ _ _ _=>(y6 (z6L (Nat.lt_of_succ_lt hu)) (DE.w (zT hu (z7 (pv 0)) (z7 (pv 1)) (fun _ _=>rfl))) (DE.w (zT hu (z7 (pv 0)) (DE.w (zm yc (z7 (pv 1)) (DE.w zD))) (fun _ _=>rfl))) (zR _)))))) zE)))))
noncomputable def zu(L:List (List Int))(q:Int×Int):List (List Int):=
 (L.set q.1.toNat (L.getD q.1.toNat []++[q.2])).set q.2.toNat ((L.set q.1.toNat (L.getD q.1.toNat []++[q.2])).getD q.2.toNat []++[q.1])
noncomputable def zH(n:Nat)(ps:List (Int×Int)):List (List Int):=ps.foldl zu (List.replicate n [])
noncomputable def pair?:PyData->Option (Int×Int)
 | .tuple [.int x,.int y]=>some (x,y)
 | _=>none
noncomputable def pairs?:List PyData->Option (List (Int×Int))
 | []=>some []
 | d::r=>match pair? d,pairs? r with
  | some q,some l=>some (q::l)
  | _,_=>none
noncomputable def web?:PyData->Option (Int×List (Int×Int))
 | .tuple [.int n,.tuple ts]=>(pairs? ts).map fun ps=>(n,ps)
 | _=>none
noncomputable def zG(q:Int×Int):PyData:=.tuple [.int q.1,.int q.2]
noncomputable def webD(n:Int)(ps:List (Int×Int)):PyData:=.tuple [.int n,.tuple (ps.map zG)]
theorem pair?_eq{d:PyData}{q:Int×Int}(h:pair? d=some q):d=zG q:=by
 unfold pair? at h;split at h
 ·cases h;rfl
 ·cases h
theorem pairs?_eq:∀{ds:List PyData} {ps:List (Int×Int)},pairs? ds=some ps->ds=ps.map zG
 | [],ps,h=>by simp only[pairs?]at h;cases h;rfl
 | d::r,ps,h=>by
  simp only[pairs?]at h;split at h
  next q l e1 e2=>cases h;rw[List.map_cons,pair?_eq e1,pairs?_eq e2]
  next=>cases h
theorem web?_eq{d:PyData}{n:Int}{ps:List (Int×Int)}(h:web? d=some (n,ps)):d=webD n ps:=by
 unfold web? at h;split at h
 next m ts=>
  obtain⟨l,e,e2⟩:=Option.map_eq_some_iff.mp h;cases e2;rw[pairs?_eq e];rfl
 next=>cases h
noncomputable def yK(L:List (List Int)):PyData:=.list (L.map fun l=>.list (l.map PyData.int))
noncomputable def z5K(n:Int)(ps:List (Int×Int)):Option PyData:=if 0<=n/\n<=100/\ps.length<=400/\ps.all (fun q=>decide ((0<=q.1/\q.1<n)/\0<=q.2/\q.2<n))=true then some (yK (zH n.toNat ps))else none
noncomputable def uV:List D->Mx D
 | [.p w]=>Mx.opt ((web? w).bind fun q=>(z5K q.1 q.2).map D.p)
 | _=>Mx.bad
theorem z8y{σ:St}{H:Hp}{A B:Hp->Prop}(h:A H):tYes σ H (fun b H3=>if b=true then A H3 else B H3):=by
 show if true=true then A H else B H
 exact iteT h
theorem z2V{α:Type}{xs:List α}{i:Int}{v:α}(h0:0<=i)(h:xs[i.toNat]?=some v):atI xs i=some v:=by
 have:=u5 h
 rwa [Int.toNat_of_nonneg h0]at this
structure TiedAt(H:Hp)(D:Addr)(bs:List Addr)(L:List (List Int)):Prop where
 top:H D=some (.lst (bs.map V.ref))
 len:bs.length=L.length
 each:∀(i:Nat) (b:Addr) (l:List Int),bs[i]?=some b->L[i]?=some l->H b=some (.lst (l.map V.int))
theorem TiedAt.push{H:Hp}{D:Addr}{bs:List Addr}{L:List (List Int)}(h:TiedAt H D bs L)(nd:bs.Nodup)(hD:D∉bs){p:Nat}{b:Addr}(hb:bs[p]?=some b)(q:Int):
  TiedAt (upd H b (.lst ((L.getD p []).map V.int++[.int q]))) D bs (L.set p (L.getD p []++[q])):=by
 have hDb:D≠b:=fun e=>hD (e▸List.mem_of_getElem? hb);have hpb:p<bs.length:=(List.getElem?_eq_some_iff.mp hb).1;have hp:p<L.length:=by rw[<-h.len];exact hpb
 refine⟨by rw[z9 hDb];exact h.top,by rw[List.length_set];exact h.len,fun i c l' h1 h2=>?_⟩;by_cases e:i=p
 ·subst e;rw[hb]at h1;cases h1;rw[List.getElem?_set_self hp]at h2;cases h2;rw[z6,List.map_append];rfl
 ·rw[List.getElem?_set_ne (Ne.symm e)]at h2
  have:c≠b:=fun z=>by
   subst z;obtain⟨i1,e1⟩:=List.getElem?_eq_some_iff.mp h1;obtain⟨i2,e2⟩:=List.getElem?_eq_some_iff.mp hb;exact e ((List.getElem_inj nd).mp (e1.trans e2.symm))
  rw[z9 this];exact h.each i c l' h1 h2
theorem TiedAt.at{H:Hp}{D:Addr}{bs:List Addr}{L:List (List Int)}(h:TiedAt H D bs L){p:Nat}{b:Addr}(hb:bs[p]?=some b):H b=some (.lst ((L.getD p []).map V.int)):=by
 have hpb:p<bs.length:=(List.getElem?_eq_some_iff.mp hb).1;have hp:p<L.length:=by rw[<-h.len];exact hpb
 exact h.each p b _ hb (by rw[List.getD_eq_getElem?_getD,List.getElem?_eq_getElem hp];rfl)
theorem z4O(n:Nat):∀(ps:List (Int×Int)) (L:List (List Int)) (k:Nat),(∀p,(L.getD p []).length<=k)->∀p,((ps.foldl zu L).getD p []).length<=k+2*ps.length
 | [],L,k,h,p=>by simpa using h p
 | q::r,L,k,h,p=>by
  have st:∀(L:List (List Int)) (i:Nat) (x:Int) (k:Nat),(∀p,(L.getD p []).length<=k)->∀p,((L.set i (L.getD i []++[x])).getD p []).length<=k+1:=fun L i x k h p=>by
   rw[List.getD_eq_getElem?_getD,List.getElem?_set];split
   ·split
    ·have:=h i;simp only[Option.getD_some,List.length_append,List.length_singleton];omega
    ·simp
   ·have:=h p;rw[List.getD_eq_getElem?_getD]at this;omega
  have:=z4O n r (zu L q) (k+1+1) (st _ _ _ _ (st L _ _ k h)) p;rw[List.foldl_cons,List.length_cons];omega
theorem z6u{S:Addr->Prop}{H:Hp}{f:Int×Int->PyData}:∀{ps:List (Int×Int)} {xs:List V},DatsS S H (ps.map f) xs->∀(i:Nat) (h:i<ps.length),∃v,xs[i]?=some v/\DatS S H (f ps[i]) v:=fun{ps xs} h i hi=>h.get (by rw[List.getElem?_map,List.getElem?_eq_getElem hi];rfl)
theorem z0w{S:Addr->Prop}{H:Hp}:∀{bs:List Addr} {L:List (List Int)},bs.length=L.length->(∀b∈bs,¬S b)->(∀(i:Nat) (b:Addr) (l:List Int),bs[i]?=some b->L[i]?=some l->H b=some (.lst (l.map V.int)))->DatsS S H (L.map fun l=>.list (l.map PyData.int)) (bs.map V.ref)
 | [],[],_,_,_=>.nil
 | [],_::_,h,_,_=>by cases h
 | _::_,[],h,_,_=>by cases h
 | b::bs,l::L,h,hS,he=>.cons (z1y (hS b List.mem_cons_self) (he 0 b l rfl rfl) (z1P l)) (z0w (by simpa using h) (fun c hc=>hS c (List.mem_cons_of_mem _ hc)) fun i c m h1 h2=>he (i+1) c m (by simpa using h1) (by simpa using h2))
theorem z3j(T:Txt K mg t):FnOk P w K mg base CX0 1 t.f_q13.a t.f_q13.d ["web"] (spD K EW0 uV):=by
 have shape:∀{vs:List V} {H:Hp} {Q:VK} {E:XK},spD K EW0 uV vs H Q E->∃(S:Addr->Prop) (a t':Addr) (n:Int) (ps:List (Int×Int)) (xs:List V),vs=[.ref a]/\(∀a,S a->H a≠none)/\H a=some (.tup [.int n,.ref t'])/\H t'=some (.tup xs)/\DatsS S H (ps.map zG) xs/\(0<=n/\n<=100)/\ps.length<=400/\(∀q∈ps,(0<=q.1/\q.1<n)/\0<=q.2/\q.2<n)/\
   ∀v H',Same H H'->DatS S H' (yK (zH n.toNat ps)) v->Q v H':=fun{vs H Q E} h=>by
  obtain⟨g,k,ds,h0,hs,ht,hd,r,q⟩:=h
  match ds,q,r with
  | [.p w],q,r=>
   obtain⟨d,ed,q2⟩:=wU (show AftG (fun _ H' d v=>Rep g g.U H' d v) g (fun c H'=>EW0 c E H') H (Mx.opt ((web? w).bind fun q=>(z5K q.1 q.2).map D.p) k) Q from q);obtain⟨⟨n,ps⟩,e1,e2⟩:=Option.bind_eq_some_iff.mp ed;obtain⟨z,e3,e4⟩:=Option.map_eq_some_iff.mp e2;subst e4;have ew:=web?_eq e1;subst ew;unfold z5K at e3;split at e3
   next c=>
    cases e3;obtain⟨v,rfl,rv⟩:=all1 r;have rv:DatS g.U H (webD n ps) v:=rv;simp only[webD,DatS,DatsS]at rv;obtain⟨a,_,rfl,ha,x1,_,rfl,e5,x2,_,rfl,⟨t',xs,e6,ht',hxs⟩,e7⟩:=rv;subst e5 e6 e7;refine⟨g.U,a,t',n,ps,xs,rfl,fun b z=>?_,ha,ht',hxs,⟨c.1,c.2.1⟩,c.2.2.1,fun q hq=>of_decide_eq_true (List.all_eq_true.mp c.2.2.2 q hq),fun v H' s d=>q2 v H' s.kp (s.twn ht) d⟩;rcases z with z | z
    ·exact hd b z
    ·rw[ht b z];intro z;cases z
   next=>cases e3
 refine T.f_q13.F.ok sc_q13 (fun vs H Q E h=>?_) (fun cdv A outer s H vs Q E hr h=>?_)
 ·obtain⟨S,a,t',n,ps,xs,rfl,_⟩:=shape h;rfl
 ·obtain⟨S,a,t',n,ps,xs,rfl,hSd,h2,h3,hps,hn,hpl,hin,k⟩:=shape h;have hxl:xs.length=ps.length:=by rw[<-hps.length,List.length_map]
  refine⟨_,(yf (z4D (i:=1) (N:=["web","tied","tie"]) (sc:=(z5 (top 22))) (N':=["web","tied","tie","place"]) rfl rfl rfl (by decide +kernel) sc_q13.nd rfl rfl (z1O (by rfl) T.b_range (zK (uD (ixT (K:=K)) (pv 0) xQ (fun _ _=>rfl)) pa_nil)) (fun _ _ _ _=>yM) (fun _ _ _ _=>(z2T pa_nil)))
   (yf (z4Q PassesOwn.never rfl (piT (K:=K) (uD (ixT (K:=K)) (pv 0) xQ (fun _ _=>rfl))) (yh (i:=2) sc_q13.nd rfl (by first | exact Or.inl rfl | exact Or.inr rfl))
   (yf (xW (wF PySem.F.plainAttrs_list PySem.F.slot_list_append PySem.F.type_list_append yz (uD (ixL (K:=K)) (pv 1) (uD (ixT (K:=K)) (pv 2) xQ (fun _ _=>rfl)) (fun _ _=>rfl)) (zK (uD (ixT (K:=K)) (pv 2) xQ (fun _ _=>rfl)) pa_nil)))
   (xz (xW (wF PySem.F.plainAttrs_list PySem.F.slot_list_append PySem.F.type_list_append yz (uD (ixL (K:=K)) (pv 1) (uD (ixT (K:=K)) (pv 2) xQ (fun _ _=>rfl)) (fun _ _=>rfl)) (zK (uD (ixT (K:=K)) (pv 2) xQ (fun _ _=>rfl)) pa_nil))))))
   (xz (z0d (pv 1))))),?_⟩
  refine⟨_,rfl,a,_,_,_,rfl,rfl,SqT.of h2,rfl,_,rfl,by omega,by omega,n.toNat,fun i ys H'=>∃bs:List Addr,ys=bs.map V.ref/\bs.length=i/\bs.Nodup/\Same H H'/\∀b∈bs,H' b=some (.lst [])/\H b=none,
   ⟨[],rfl,rfl,List.nodup_nil,Same.refl H,fun b hb=>(nomatch hb)⟩,⟨y3 (by omega),fun ys H' _=>Nat.le_refl _,fun i ys H' hi' _=>hi',fun i ys H' v H'' hi' ⟨bs,e1,e2,e3,s1,e4⟩ y=>?_⟩,fun ys H' ⟨bs,e1,e2,e3,s1,e4⟩ D hD=>?_⟩
  ·obtain⟨rfl,rfl⟩:=y;refine z8y ⟨Nat.zero_le _,fun p hp=>⟨bs++[p],by rw[e1,List.map_append];rfl,by rw[List.length_append,e2];rfl,?_,s1.trans (Same.new hp),fun b hb=>?_⟩⟩
   ·exact z3X e3 fun m=>by rw[(e4 p m).1]at hp;cases hp
   ·rcases List.mem_append.mp hb with m | m
    ·have:=zL (e4 b m).1 hp;rw[z9 this];exact e4 b m
    ·rw[List.mem_singleton.mp m,z6];exact⟨rfl,s1.free hp⟩
  ·have hDb:D∉bs:=fun m=>by rw[(e4 D m).1]at hD;cases hD
   have s2:Same H (upd H' D (.lst ys)):=s1.trans (Same.new hD);have hD0:H D=none:=s1.free hD;have T0:TiedAt (upd H' D (.lst ys)) D bs (List.replicate n.toNat []):=⟨by rw[z6,e1],by rw[List.length_replicate];exact e2,fun i b l q1 q2=>by
    have hb:=List.mem_of_getElem? q1;rw[List.getElem?_replicate]at q2;split at q2
    ·cases q2;have hne:b≠D:=fun z=>by rw[z]at hb;exact hDb hb
     rw[z9 hne];exact(e4 b hb).1
    ·cases q2⟩
   have few:=fun(i:Nat) (p:Nat)=>z4O n.toNat (ps.take i) (List.replicate n.toNat []) 0 (fun p=>by
    rw[List.getD_eq_getElem?_getD,List.getElem?_replicate];split<;>simp) p
   have lenT:∀(ps:List (Int×Int)) (L:List (List Int)),(ps.foldl zu L).length=L.length:=fun ps=>by
    induction ps with
    | nil=>intro L;rfl
    | cons q r ih=>intro L;rw[List.foldl_cons,ih];unfold zu;rw[List.length_set,List.length_set]
   refine⟨_,rfl,a,_,_,_,rfl,rfl,SqT.of (s2 _ _ h2),rfl,t',rfl,⟨_,SqT.of (s2 _ _ h3)⟩,z79 (K:=K) (a:=t') (xs:=xs)
    (fun i σ H2=>∃(v:Option V),σ=[some (.ref a),some (.ref D),v]/\Same H H2/\TiedAt H2 D bs (zH n.toNat (ps.take i)))
    ⟨none,rfl,s2,T0⟩ (fun i σ H2 _ ⟨_,_,s3,_⟩=>SqT.of (s3 _ _ h3)) ?_ ?_⟩
   ·rintro i y σ H2 hi ⟨v,rfl,s3,T3⟩;have hix:i<xs.length:=(List.getElem?_eq_some_iff.mp hi).1;have hip:i<ps.length:=by omega
    obtain⟨y',ey,ry⟩:=z6u hps i hip;rw[hi]at ey;cases ey;obtain⟨c,_,rfl,hc,u1,_,rfl,d1,u2,_,rfl,d2,d3⟩:=(show ∃c zs,y=.ref c/\H c=some (.tup zs)/\∃u1 r1,zs=u1::r1/\u1=.int ps[i].1/\∃u2 r2,r1=u2::r2/\u2=.int ps[i].2/\r2=[] by simpa only[zG,DatS,DatsS]using ry);subst d1 d2 d3;have tie:=hin ps[i] (List.getElem_mem hip);have f1:=few i ps[i].1.toNat;obtain⟨b1,x1⟩:∃b,bs[ps[i].1.toNat]?=some b:=⟨_,List.getElem?_eq_getElem (show ps[i].1.toNat<bs.length by omega)⟩;obtain⟨b2,y1⟩:∃b,bs[ps[i].2.toNat]?=some b:=⟨_,List.getElem?_eq_getElem (show ps[i].2.toNat<bs.length by omega)⟩;have T4:=T3.push e3 hDb x1 ps[i].2;have T5:=T4.push e3 hDb y1 ps[i].1;have keep:∀{H4:Hp} {b:Addr} {o:HO},b∈bs->Same H H4->Same H (upd H4 b o):=fun{H4 b o} hb s4 c oc ec=>by
     rw[z9 (zL ec (e4 b hb).2)];exact s4 _ _ ec
    have s4:=keep (o:=.lst (((zH n.toNat (ps.take i)).getD ps[i].1.toNat []).map V.int++[.int ps[i].2])) (List.mem_of_getElem? x1) s3;have s5:=keep (o:=.lst ((((zH n.toNat (ps.take i)).set ps[i].1.toNat ((zH n.toNat (ps.take i)).getD ps[i].1.toNat []++[ps[i].2])).getD ps[i].2.toNat []).map V.int++[.int ps[i].1])) (List.mem_of_getElem? y1) s4;have m1:(bs.map V.ref)[ps[i].1.toNat]?=some (.ref b1):=by rw[List.getElem?_map,x1];rfl
    have m2:(bs.map V.ref)[ps[i].2.toNat]?=some (.ref b2):=by rw[List.getElem?_map,y1];rfl
    have f2:(((zH n.toNat (ps.take i)).set ps[i].1.toNat ((zH n.toNat (ps.take i)).getD ps[i].1.toNat []++[ps[i].2])).getD ps[i].2.toNat []).length<=1000:=by
     rw[List.getD_eq_getElem?_getD,List.getElem?_set];have g1:=few i ps[i].1.toNat;have g2:=few i ps[i].2.toNat;rw[List.length_take]at g1 g2;unfold zH;split
     ·split
      ·simp only[Option.getD_some,List.length_append,List.length_singleton];omega
      ·simp
     ·rw[<-List.getD_eq_getElem?_getD];omega
    rw[List.length_take]at f1;refine⟨_,rfl,_,rfl,c,_,_,_,rfl,rfl,SqT.of (s3 _ _ hc),rfl,D,_,_,.ref b1,rfl,rfl,SqL.of T3.top,z2V tie.1.1 m1,.inl ⟨rfl,_,SqL.of (T3.at x1)⟩,_,rfl,c,_,_,_,rfl,rfl,SqT.of (s3 _ _ hc),rfl,
     b1,_,_,rfl,rfl,T3.at x1,z1H (by rw[List.length_map];unfold zH;omega),?_⟩
    refine⟨_,rfl,_,rfl,c,_,_,_,rfl,rfl,SqT.of (s4 _ _ hc),rfl,D,_,_,.ref b2,rfl,rfl,SqL.of T4.top,z2V tie.2.1 m2,.inl ⟨rfl,_,SqL.of (T4.at y1)⟩,_,rfl,c,_,_,_,rfl,rfl,SqT.of (s4 _ _ hc),rfl,
     b2,_,_,rfl,rfl,T4.at y1,z1H (by rw[List.length_map];exact f2),?_⟩
    refine⟨_,rfl,s5,?_⟩;have e6:zH n.toNat (ps.take (i+1))=zu (zH n.toNat (ps.take i)) ps[i]:=by
     unfold zH;rw[List.take_add_one,List.getElem?_eq_getElem hip,Option.toList_some,List.foldl_append];rfl
    rw[e6];exact T5
   ·rintro σ H2 ⟨v,rfl,s3,T3⟩;rw[hxl,List.take_length]at T3;refine⟨_,rfl,k _ H2 s3 (z1y (fun z=>hSd D z hD0) T3.top (z0w T3.len (fun b hb z=>hSd b z (e4 b hb).2) T3.each))⟩
noncomputable def z5V:Env'->Mx Out:=(sSeq (sOwn 2 (mD1 (mVal 1) (mC (.int 0))))
 (sSeq (sOwn 3 (mSeq PyData.list (mCons (mVal 1) mNil)))
 (sSeq (uo 1000 (mTru (mVar 3)) (sSeq (z2O 4 3 (mC (.int 0)))
 (sFor (mIt (mBin fIx (mVar 0) (mVar 4))) (τ1 5) (sIf (mTest (mBin (fIn true) (mVar 5) (mVar 2))) (sSeq (z2Z 2 (mVal 5) (mBin fAdd (mBin fIx (mVar 2) (mVar 4)) (mC (.int 1))))
 (sApp 3 (mVal 5))) sNil))))
 (sRet (mVar 2)))))
noncomputable def z1r:List D->Mx D:=mFn 6 2 z5V
theorem z6G(T:Txt K mg t):FnOk P w K mg base CX0 1 t.f_q14.a t.f_q14.d ["tied","start"] (spD K EW0 z1r):=by
 refine zZ (m:=z5V) T.f_q14.F sc_q14 rfl rfl rfl fun cdv A outer s H E hr=>?_;have hu:=y0 hr;unfold z5V;exact(zC (uw (i:=2) sc_q14.nd rfl (by first | exact Or.inl rfl | exact Or.inr rfl) (z8g hr.units (zB (pv 1)) zD))
   (zC (uw (i:=3) sc_q14.nd rfl (by first | exact Or.inl rfl | exact Or.inr rfl) (xR (z4 (zB (pv 1)) zA)))
   (zC (z2a (k:=1000) PassesOwn.never (zt (z7 (pv 3)) (fun _=>rfl)) (zC (z5L (i:=4) sc_q14.nd rfl (by first | exact Or.inl rfl | exact Or.inr rfl) (wF PySem.F.plainAttrs_list PySem.F.slot_list_pop PySem.F.type_list_pop z2N (pv 3) (zK zD pa_nil)))
   (zI (z03 PassesOwn.never rfl (z7F (zT hu (z7 (pv 0)) (z7 (pv 4)) (fun _ _=>rfl))) (w8 (yh (i:=5) sc_q14.nd rfl (by first | exact Or.inl rfl | exact Or.inr rfl)))
   (zI (xL (zj (z3z hr.units) (z7 (pv 5)) (z7 (pv 2)) (by rfl)) (zC (z6o hu (pv 2) (zB (pv 5)) (zm yc (DE.w (zT hu (z7 (pv 2)) (z7 (pv 4)) (fun _ _=>rfl))) (DE.w zD)) rfl)
   (zI (z88 (wF PySem.F.plainAttrs_list PySem.F.slot_list_append PySem.F.type_list_append yz (pv 3) (zK (zB (pv 5)) pa_nil))))) yB))))))
   (zI (zQ (z7 (pv 2)))))))
noncomputable def z5i:Env'->Mx Out:=(sRet (mP (mComp (mRng yW (mCons (mCallB fLen (mCons (mVar 0) mNil)) mNil)) (mTru (mCallB (zn fun bs=>bs.any id) (mCons (mP (mComp (mIt (mBin fIx (mVar 0) (mVar 2))) mYes (mBin (fIn false) (mVar 3) (mVar 1)))) mNil))) (mVal 2))))
noncomputable def z3R:List D->Mx D:=mFn 2 2 z5i
theorem z8R(T:Txt K mg t):FnOk P w K mg base CX0 1 t.f_q17.a t.f_q17.d ["tied","could_be"] (spD K EW0 z3R):=by
 refine zZ (m:=z5i) T.f_q17.F z7P rfl rfl rfl fun cdv A outer s H E hr=>?_;have hu:=y0 hr;unfold z5i;exact(zI (zQ (DE.w (DF.de (zz (N:=["tied","could_be"]) (sc:=(z5 (top 26))) (N':=["tied","could_be","place"]) rfl rfl rfl (by decide +kernel) (fun _ _ _ z=>z) (yJ (by rfl) T.b_range (z8 (DE.w (zM ug (by rfl) T.b_len Bt.b_len (z8 (z7 (pv 0)) zE))) zE)) (fun _ _ _ _=>z0g (zt (DE.w (zM (z7c rfl) (by rfl) T.b_any Bt.b_any (z8 (DE.w (DF.de (z0M (N:=["tied","could_be","place"]) (N':=["tied","could_be","place","other"]) rfl rfl xS (by decide +kernel) zW (yS (DE.w (zT hu (z7 (pv 0)) (z7 (pv 2)) (fun _ _=>rfl)))) (fun _ _ _ _=>yM) (fun _ _ _ _=>(y6 (we hr.units) (z7 (pv 3)) (z7 (pv 1)) (by rfl)))))) zE))) (fun _=>rfl))) (fun _ _ _ _=>(zB (pv 2))))))))
noncomputable def ww(ns:List Int)(k:Int):Int:=if k<ns.length then ns.getD k.toNat 0 else if ns=[]then 0 else ns.getD (k % ns.length).toNat 0*31+k
noncomputable def z2k:List D->Mx D
 | [.scr ns,.p (.int k)]=>if 0<=k then pure (.p (.int (ww ns k)))else Mx.bad
 | _=>Mx.bad
theorem z5c{α:Type}{xs:List α}{i:Int}{v:α}(h0:0<=i)(h:xs[i.toNat]?=some v):atI xs i=some v:=by
 have:=u5 h
 rwa [Int.toNat_of_nonneg h0]at this
theorem z7E(T:Txt K mg t):FnOk P w K mg base CX0 1 t.f_q21.a t.f_q21.d ["_law_script","_law_k"] (spD K EW0 z2k):=by
 have shape:∀{vs:List V} {H:Hp} {Q:VK} {E:XK},spD K EW0 z2k vs H Q E->∃(a:Addr) (k:Int) (ns:List Int),vs=[.ref a,.int k]/\SqL K H a (ns.map V.int)/\0<=k/\∀H',Same H H'->Q (.int (ww ns k)) H':=fun{vs H Q E} h=>by
  obtain⟨g,n,ds,h0,hs,ht,hd,r,q⟩:=h
  match ds,q,r with
  | [.scr ns,.p (.int k)],q,r=>
   by_cases hk:0<=k
   ·have q:AftG (fun _ H' d v=>Rep g g.U H' d v) g (fun c H'=>EW0 c E H') H ((if 0<=k then pure (.p (.int (ww ns k)))else Mx.bad:Mx D) n) Q:=q;rw[if_pos hk]at q;obtain⟨v,u,rfl,⟨e1,rfl⟩,r2⟩:=all2 r;have e2:u=.int k:=by simpa only[Rep,DatS]using r2
    subst e2 e1;refine⟨g.aS,k,g.ns,rfl,?_,hk,fun H' s=>q _ H' s.kp (s.twn ht) (di:DatS g.U H' (.int _) (.int _))⟩;rcases hs with hs | ⟨_,hs⟩
    ·exact hs H
    ·exact hs
   ·have q:AftG (fun _ H' d v=>Rep g g.U H' d v) g (fun c H'=>EW0 c E H') H ((if 0<=k then pure (.p (.int (ww ns k)))else Mx.bad:Mx D) n) Q:=q;rw[if_neg hk]at q;exact q.elim
 refine T.f_q21.F.ok z7V (fun vs H Q E h=>?_) (fun cdv A outer s H vs Q E hr h=>?_)
 ·obtain⟨a,k,ns,rfl,_⟩:=shape h;rfl
 ·obtain⟨a,k,ns,rfl,hS,hk,q⟩:=shape h;have hu:=y0 hr;have item:∀(j:Int),0<=j->j<(ns.length:Int)->atI (ns.map V.int) j=some (.int (ns.getD j.toNat 0)):=fun j h1 h2=>by
   have hj:j.toNat<ns.length:=by omega
   exact z5c h1 (by rw[List.getElem?_map,List.getElem?_eq_getElem hj,List.getD_eq_getElem?_getD,List.getElem?_eq_getElem hj];rfl)
  refine⟨_,(yf (z6v (z1Y op_lt (pv 1) (yD call_len_seq (by rfl) T.b_len Bt.b_len (zK (pv 0) pa_nil)) (zR _)) (xz (z0d (uD ix_list (pv 0) (pv 1) (fun _ _=>rfl)))) pss_nil)
   (yf (z6v (z1Y (z5f (Nat.lt_of_succ_lt hu)) (pv 0) (z2T pa_nil) (zR _)) (xz (z0d xQ)) pss_nil)
   (xz (z0d (z4q op_add (z4q op_mul (uD ix_list (pv 0) (z4q op_mod (pv 1) (yD call_len_seq (by rfl) T.b_len Bt.b_len (zK (pv 0) pa_nil))) (fun _ _=>rfl)) xQ) (pv 1)))))),?_⟩
  refine⟨_,rfl,_,rfl,a,_,rfl,.inl hS,_,_,rfl,rfl,_,rfl,ite2 (fun c=>?_) (fun c=>?_)⟩
  ·have c':k<(ns.length:Int):=by simpa using c
   have q1:=q H (Same.refl H);unfold ww at q1;rw[if_pos c']at q1;exact⟨_,rfl,_,rfl,a,_,_,_,rfl,rfl,hS,item k hk c',q1⟩
  ·have c':¬k<(ns.length:Int):=by simpa using c
   refine⟨_,rfl,by decide,fun p hp=>⟨a,p,_,rfl,rfl,(Same.new hp).seq hS,SqL.of z6,_,rfl,ite2 (fun e=>?_) (fun e=>?_)⟩⟩
   ·have e':ns=[]:=by cases ns with
     | nil=>rfl
     | cons _ _=>cases e
    have q1:=q _ (Same.new (o:=.lst []) hp);unfold ww at q1;rw[if_neg c',if_pos e']at q1;exact q1
   ·have e':ns≠[]:=fun z=>e (by rw[z];rfl);have hne:0<ns.length:=List.length_pos_iff.mpr e';have m1:=Int.emod_nonneg k (show(ns.length:Int)≠0 by omega);have m2:=Int.emod_lt_of_pos k (show(0:Int)<ns.length by omega);have q1:=q _ (Same.new (o:=.lst []) hp);unfold ww at q1;rw[if_neg c',if_neg e']at q1;refine⟨_,rfl,_,rfl,_,rfl,a,_,rfl,.inl ((Same.new hp).seq hS),_,_,rfl,rfl,(by rw[List.length_map];omega),a,_,_,_,rfl,rfl,(Same.new hp).seq hS,(by rw[List.length_map];exact item _ m1 m2),_,_,rfl,rfl,.inr ⟨by decide,by decide⟩,_,rfl,_,_,rfl,rfl,q1⟩
noncomputable def b_q1:Env'->Mx Out:=(sRet (mAndV (mUn (fIsi "tuple") (mVar 0)) (mCallB (zn fun bs=>bs.all id) (mCons (mP (mComp (mIt (mVar 0)) mYes (mCall F_q0 (mCons (mVal 3) (mCons (mVal 1) (mCons (mVal 2) mNil)))))) mNil))))
noncomputable def F_q1:List D->Mx D:=mFn 3 3 b_q1
theorem z7e(T:Txt K mg t):FnOk P w K mg base CX0 2 t.f_q1.a t.f_q1.d ["thing","least","most"] (spD K EW0 F_q1):=by
 have G_q0:FnOk P w K mg base CX0 1 t.f_q0.a t.f_q0.d ["thing","least","most"] (spD K EW0 F_q0):=z7l T;refine zZ (m:=b_q1) T.f_q1.F z8r rfl rfl rfl fun cdv A outer s H E hr=>?_;have hu:=y0 hr;unfold b_q1;exact(zI (zQ (DE.w (wW (DE.w (z1Q wV (yD xg (by rfl) T.b_isinstance Bt.b_isinstance (zK (z7 (pv 0)) (zK (u6 (v:=.ty "tuple") (by rfl) T.b_tuple Bt.b_tuple rfl) pa_nil))))) (uf (zM (uh rfl) (by rfl) T.b_all Bt.b_all (z8 (DE.w (DF.de (zz (N:=["thing","least","most"]) (sc:=(z5 (top 8))) (N':=["thing","least","most","each"]) rfl rfl rfl (by decide +kernel) zW (yS (z7 (pv 0))) (fun _ _ _ _=>yM) (fun _ _ _ _=>(zF (E:=E0) G_q0 (fun _ _ z=>z.elim) (hr.mono (by decide)) (by rfl) T.f_q0.m T.f_q0.k T.f_q0.d zP (z4 (zB (pv 3)) (z4 (zB (pv 1)) (z4 (zB (pv 2)) zA)))))))) zE)))))))
noncomputable def b_q6:Env'->Mx Out:=(sSeq (sIf (mOrT (mNotT (mTru (mUn (fIsi "tuple") (mVar 0)))) (mTest (mBin (fEq true) (mCallB fLen (mCons (mVar 0) mNil)) (mC (.int 2))))) (sRet (mC (.bool false))) sNil)
 (sRet (mAndV (mCall F_q0 (mCons (mBin fIx (mVar 0) (mC (.int 0))) (mCons (mC (.int 1)) (mCons (mC (.int z71)) mNil)))) (mUn (fIsi "tuple") (mBin fIx (mVar 0) (mC (.int 1)))))))
noncomputable def F_q6:List D->Mx D:=mFn 1 1 b_q6
theorem z8U(T:Txt K mg t):FnOk P w K mg base CX0 2 t.f_q6.a t.f_q6.d ["thing"] (spD K EW0 F_q6):=by
 have G_q0:FnOk P w K mg base CX0 1 t.f_q0.a t.f_q0.d ["thing","least","most"] (spD K EW0 F_q0):=z7l T;obtain⟨u_q30,g_q30,r_q30⟩:=T.g_q30;refine zZ (m:=b_q6) T.f_q6.F z8Z rfl rfl rfl fun cdv A outer s H E hr=>?_;have hu:=y0 hr;unfold b_q6;exact(zC (xL (DPW.dt (ui (uu (zt (DE.w (z1Q wV (yD xg (by rfl) T.b_isinstance Bt.b_isinstance (zK (z7 (pv 0)) (zK (u6 (v:=.ty "tuple") (by rfl) T.b_tuple Bt.b_tuple rfl) pa_nil))))) (fun _=>rfl))) (w5 (zj (yl hr.units) (DE.w (zM ug (by rfl) T.b_len Bt.b_len (z8 (z7 (pv 0)) zE))) (DE.w zD) (zR _))))) (zI (zQ (DE.w z1I))) yB)
   (zI (zQ (DE.w (wW (DE.w (zF (E:=E0) G_q0 (fun _ _ z=>z.elim) (hr.mono (by decide)) (by rfl) T.f_q0.m T.f_q0.k T.f_q0.d zP (z4 (zT hu (z7 (pv 0)) (DE.w zD) (fun _ _=>rfl)) (z4 zD (z4 (z6z (z0Q (by rfl) g_q30 r_q30)) zA))))) (uf (z1Q wV (yD xg (by rfl) T.b_isinstance Bt.b_isinstance (zK (DE.w (zT hu (z7 (pv 0)) (DE.w zD) (fun _ _=>rfl))) (zK (u6 (v:=.ty "tuple") (by rfl) T.b_tuple Bt.b_tuple rfl) pa_nil))))))))))
noncomputable def z5T:Env'->Mx Out:=(sSeq (sSet 2 (mCall uV (mCons (mVal 0) mNil)))
 (sSeq (sSet 3 (mP (mComp (mIt (mVar 1)) mYes (mCall z1r (mCons (mVal 2) (mCons (mVal 5) mNil))))))
 (sSeq (sSet 4 (mP (mComp (mRng yW (mCons (mBin fIx (mVar 0) (mC (.int 0))) mNil)) (mTru (mCallB (zn fun bs=>bs.all id) (mCons (mP (mComp (mIt (mVar 3)) mYes (mBin (fIn false) (mVar 5) (mVar 6)))) mNil))) (mVal 5))))
 (sRet (mP (mDictOf (mP (mComp (mIt (mVar 4)) mYes (mP (mSeq PyData.tuple (mCons (mVal 5) (mCons (mP (mComp (mIt (mVar 3)) mYes (mBin fIx (mVar 6) (mVar 5)))) mNil))))))))))))
noncomputable def z06:List D->Mx D:=mFn 5 2 z5T
theorem z4w(T:Txt K mg t):FnOk P w K mg base CX0 2 t.f_q15.a t.f_q15.d ["web","places"] (spD K EW0 z06):=by
 have G_q13:FnOk P w K mg base CX0 1 t.f_q13.a t.f_q13.d ["web"] (spD K EW0 uV):=z3j T;have G_q14:FnOk P w K mg base CX0 1 t.f_q14.a t.f_q14.d ["tied","start"] (spD K EW0 z1r):=z6G T;refine zZ (m:=z5T) T.f_q15.F sc_q15 rfl rfl rfl fun cdv A outer s H E hr=>?_;have hu:=y0 hr;unfold z5T;exact(zC (y4 (i:=2) sc_q15.nd rfl (by first | exact Or.inl rfl | exact Or.inr rfl) (zF (E:=E0) G_q13 (fun _ _ z=>z.elim) (hr.mono (by decide)) (by rfl) T.f_q13.m T.f_q13.k T.f_q13.d zP (z4 (zB (pv 0)) zA)))
   (zC (y4 (i:=3) sc_q15.nd rfl (by first | exact Or.inl rfl | exact Or.inr rfl) (DF.de (zz (N:=["web","places","tied","far","common"]) (sc:=(z5 (top 24))) (N':=["web","places","tied","far","common","start"]) rfl rfl rfl (by decide +kernel) zW (yS (z7 (pv 1))) (fun _ _ _ _=>yM) (fun _ _ _ _=>(zF (E:=E0) G_q14 (fun _ _ z=>z.elim) (hr.mono (by decide)) (by rfl) T.f_q14.m T.f_q14.k T.f_q14.d zP (z4 (zB (pv 2)) (z4 (zB (pv 5)) zA)))))))
   (zC (u8 (i:=4) (N:=["web","places","tied","far","common"]) (sc:=(z5 (top 24))) (N':=["web","places","tied","far","common","place"]) rfl rfl rfl (by decide +kernel) sc_q15.nd rfl rfl (fun _ _ _ z=>z) (yJ (by rfl) T.b_range (z8 (DE.w (zT hu (z7 (pv 0)) (DE.w zD) (fun _ _=>rfl))) zE)) (fun _ _ _ _=>z0g (zt (DE.w (zM (uh rfl) (by rfl) T.b_all Bt.b_all (z8 (DE.w (DF.de (z0M (N:=["web","places","tied","far","common","place"]) (N':=["web","places","tied","far","common","place","each"]) rfl rfl xS (by decide +kernel) zW (yS (z7 (pv 3))) (fun _ _ _ _=>yM) (fun _ _ _ _=>(y6 (we hr.units) (z7 (pv 5)) (z7 (pv 6)) (by rfl)))))) zE))) (fun _=>rfl))) (fun _ _ _ _=>(zB (pv 5))))
   (zI (zQ (DE.w (DF.de (z76 rfl hr.units (by rfl) T.b_dict Bt.b_dict (DF.de (zz (N:=["web","places","tied","far","common"]) (sc:=(z5 (top 24))) (N':=["web","places","tied","far","common","place"]) rfl rfl rfl (by decide +kernel) zW (yS (z7 (pv 4))) (fun _ _ _ _=>yM) (fun _ _ _ _=>(yt (z4 (zB (pv 5)) (z4 (DF.de (z0M (N:=["web","places","tied","far","common","place"]) (N':=["web","places","tied","far","common","place","each"]) rfl rfl xS (by decide +kernel) zW (yS (z7 (pv 3))) (fun _ _ _ _=>yM) (fun _ _ _ _=>(zT hu (z7 (pv 6)) (z7 (pv 5)) (fun _ _=>rfl))))) zA))))))))))))))
noncomputable def z5a:Env'->Mx Out:=(sSeq (sSet 3 (mBin fMod (mBin fAdd (mBin fAdd (mBin fMul (mCall z2k (mCons (mVal 0) (mCons (mVal 1) mNil))) (mC (.int 1103515245))) (mBin fMul (mC (.int 7919)) (mVar 1))) (mC (.int 12345))) (mC (.int 2147483647))))
 (sRet (mBin fMod (mBin fMod (mBin fMod (mBin fPow (mVar 3) (mC (.int 5))) (mC (.int 2147483647))) (mC (.int 999983))) (mVar 2))))
noncomputable def z4j:List D->Mx D:=mFn 4 3 z5a
theorem z7f(T:Txt K mg t):FnOk P w K mg base CX0 2 t.f_q22.a t.f_q22.d ["_law_script","_law_k","_law_many"] (spD K EW0 z4j):=by
 have G_q21:FnOk P w K mg base CX0 1 t.f_q21.a t.f_q21.d ["_law_script","_law_k"] (spD K EW0 z2k):=z7E T;refine zZ (m:=z5a) T.f_q22.F sc_q22 rfl rfl rfl fun cdv A outer s H E hr=>?_;have hu:=y0 hr;unfold z5a;exact(zC (y4 (i:=3) sc_q22.nd rfl (by first | exact Or.inl rfl | exact Or.inr rfl) (zm uB (DE.w (zm yc (DE.w (zm yc (DE.w (zm z21 (DE.w (zF (E:=E0) G_q21 (fun _ _ z=>z.elim) (hr.mono (by decide)) (by rfl) T.f_q21.m T.f_q21.k T.f_q21.d zP (z4 (zB (pv 0)) (z4 (zB (pv 1)) zA)))) (DE.w zD))) (DE.w (zm z21 (DE.w zD) (z7 (pv 1)))))) (DE.w zD))) (DE.w zD)))
   (zI (zQ (DE.w (zm uB (DE.w (zm uB (DE.w (zm uB (DE.w (zm z6m (z7 (pv 3)) (DE.w zD))) (DE.w zD))) (DE.w zD))) (z7 (pv 2)))))))
noncomputable def b_q3:Env'->Mx Out:=(sRet (mAndV (mCall F_q1 (mCons (mVal 0) (mCons (mC (.int 0)) (mCons (mBin fSub (mVar 1) (mC (.int 1))) mNil)))) (mAndV (mBin (fCmp fun i j=>decide (j<=i)) (mCallB fLen (mCons (mVar 0) mNil)) (mC (.int 1))) (mCall F_q2 (mCons (mVal 0) mNil)))))
noncomputable def F_q3:List D->Mx D:=mFn 2 2 b_q3
theorem z7n(T:Txt K mg t):FnOk P w K mg base CX0 3 t.f_q3.a t.f_q3.d ["thing","many"] (spD K EW0 F_q3):=by
 have G_q2:FnOk P w K mg base CX0 1 t.f_q2.a t.f_q2.d ["things"] (spD K EW0 F_q2):=z7h T;have G_q1:FnOk P w K mg base CX0 2 t.f_q1.a t.f_q1.d ["thing","least","most"] (spD K EW0 F_q1):=z7e T;refine zZ (m:=b_q3) T.f_q3.F z8w rfl rfl rfl fun cdv A outer s H E hr=>?_;have hu:=y0 hr;unfold b_q3;exact(zI (zQ (DE.w (wW (DE.w (zF (E:=E0) G_q1 (fun _ _ z=>z.elim) (hr.mono (by decide)) (by rfl) T.f_q1.m T.f_q1.k T.f_q1.d zP (z4 (zB (pv 0)) (z4 zD (z4 (zm z0J (z7 (pv 1)) (DE.w zD)) zA))))) (wW (DE.w (y6 (z1X z8b) (DE.w (zM ug (by rfl) T.b_len Bt.b_len (z8 (z7 (pv 0)) zE))) (DE.w zD) (zR _))) (uf (zF (E:=E0) G_q2 (fun _ _ z=>z.elim) (hr.mono (by decide)) (by rfl) T.f_q2.m T.f_q2.k T.f_q2.d zP (z4 (zB (pv 0)) zA))))))))
noncomputable def b_q5:Env'->Mx Out:=(sRet (mAndV (mCall F_q1 (mCons (mVal 0) (mCons (mC (.int 0)) (mCons (mBin fSub (mVar 1) (mC (.int 1))) mNil)))) (mBin (fEq false) (mCallB zV (mCons (mVar 0) mNil)) (mP (z2o yW (mCons (mVar 1) mNil))))))
noncomputable def F_q5:List D->Mx D:=mFn 2 2 b_q5
theorem z8k(T:Txt K mg t):FnOk P w K mg base CX0 3 t.f_q5.a t.f_q5.d ["thing","many"] (spD K EW0 F_q5):=by
 have G_q1:FnOk P w K mg base CX0 2 t.f_q1.a t.f_q1.d ["thing","least","most"] (spD K EW0 F_q1):=z7e T;refine zZ (m:=b_q5) T.f_q5.F z8v rfl rfl rfl fun cdv A outer s H E hr=>?_;have hu:=y0 hr;unfold b_q5;exact(zI (zQ (DE.w (wW (DE.w (zF (E:=E0) G_q1 (fun _ _ z=>z.elim) (hr.mono (by decide)) (by rfl) T.f_q1.m T.f_q1.k T.f_q1.d zP (z4 (zB (pv 0)) (z4 zD (z4 (zm z0J (z7 (pv 1)) (DE.w zD)) zA))))) (uf (y6 (ul hr.units) (DE.w (zM (yE rfl hr.units) (by rfl) T.b_sorted Bt.b_sorted (z8 (z7 (pv 0)) zE))) (DE.w (DF.de (wX (yZ (um rfl) (by rfl) T.b_list Bt.b_list (zK (z0H (by rfl) T.b_range (z8 (z7 (pv 1)) zE)) pa_nil))))) (zR _)))))))
noncomputable def z5e:Env'->Mx Out:=(sSeq (z3e 1)
 (sRet (mCall z4j (mCons (mVal 0) (mCons (z4Y 1) (mCons (mVal 2) mNil))))))
noncomputable def xt:List D->Mx D:=mFn 3 3 z5e
theorem z44(T:Txt K mg t):FnOk P w K mg base CX0 3 t.f_q23.a t.f_q23.d ["_law_script","_law_town","_law_many"] (spD K EW0 xt):=by
 have G_q22:FnOk P w K mg base CX0 2 t.f_q22.a t.f_q22.d ["_law_script","_law_k","_law_many"] (spD K EW0 z4j):=z7f T;refine zZ (m:=z5e) T.f_q23.F z7L rfl rfl rfl fun cdv A outer s H E hr=>?_;have hu:=y0 hr;unfold z5e;exact(zC (z6f (wF PySem.F.plainAttrs_list PySem.F.slot_list_append PySem.F.type_list_append yz (pv 1) (zK xQ pa_nil)))
   (zI (zQ (DE.w (zF (E:=E0) G_q22 (fun _ _ z=>z.elim) (hr.mono (by decide)) (by rfl) T.f_q22.m T.f_q22.k T.f_q22.d zP (z4 (zB (pv 0)) (z4 (z6V (yD call_len_seq (by rfl) T.b_len Bt.b_len (zK (pv 1) pa_nil))) (z4 (zB (pv 2)) zA))))))))
noncomputable def b_q4:Env'->Mx Out:=(sRet (mAndV (mCall F_q3 (mCons (mVal 0) (mCons (mVal 1) mNil))) (mBin (fEq false) (mCallB fLen (mCons (mVar 0) mNil)) (mC (.int 2)))))
noncomputable def F_q4:List D->Mx D:=mFn 2 2 b_q4
theorem z8z(T:Txt K mg t):FnOk P w K mg base CX0 4 t.f_q4.a t.f_q4.d ["thing","many"] (spD K EW0 F_q4):=by
 have G_q3:FnOk P w K mg base CX0 3 t.f_q3.a t.f_q3.d ["thing","many"] (spD K EW0 F_q3):=z7n T;refine zZ (m:=b_q4) T.f_q4.F z9A rfl rfl rfl fun cdv A outer s H E hr=>?_;have hu:=y0 hr;unfold b_q4;exact(zI (zQ (DE.w (wW (DE.w (zF (E:=E0) G_q3 (fun _ _ z=>z.elim) (hr.mono (by decide)) (by rfl) T.f_q3.m T.f_q3.k T.f_q3.d zP (z4 (zB (pv 0)) (z4 (zB (pv 1)) zA)))) (uf (y6 (ul hr.units) (DE.w (zM ug (by rfl) T.b_len Bt.b_len (z8 (z7 (pv 0)) zE))) (DE.w zD) (zR _)))))))
noncomputable def b_q9:Env'->Mx Out:=(sIf (mNotT (mTru (mCall F_q3 (mCons (mVal 0) (mCons (mVal 1) mNil))))) z2D sNil)
noncomputable def F_q9:List D->Mx D:=mFn 2 2 b_q9
theorem z8c(T:Txt K mg t):FnOk P w K mg base CX0 4 t.f_q9.a t.f_q9.d ["places","many"] (spD K EW0 F_q9):=by
 have G_q3:FnOk P w K mg base CX0 3 t.f_q3.a t.f_q3.d ["thing","many"] (spD K EW0 F_q3):=z7n T;refine zZ (m:=b_q9) T.f_q9.F z8n rfl rfl rfl fun cdv A outer s H E hr=>?_;have hu:=y0 hr;unfold b_q9;exact(zI (xL (uu (zt (DE.w (zF (E:=E0) G_q3 (fun _ _ z=>z.elim) (hr.mono (by decide)) (by rfl) T.f_q3.m T.f_q3.k T.f_q3.d zP (z4 (zB (pv 0)) (z4 (zB (pv 1)) zA)))) (fun _=>rfl))) (zI z07) yB))
noncomputable def z5Z:Env'->Mx Out:=(sIf (mNotT (mTru (mCall F_q5 (mCons (mVal 0) (mCons (mVal 1) mNil))))) z2D sNil)
noncomputable def z4E:List D->Mx D:=mFn 2 2 z5Z
theorem z85(T:Txt K mg t):FnOk P w K mg base CX0 4 t.f_q10.a t.f_q10.d ["names","many"] (spD K EW0 z4E):=by
 have G_q5:FnOk P w K mg base CX0 3 t.f_q5.a t.f_q5.d ["thing","many"] (spD K EW0 F_q5):=z8k T;refine zZ (m:=z5Z) T.f_q10.F z8Q rfl rfl rfl fun cdv A outer s H E hr=>?_;have hu:=y0 hr;unfold z5Z;exact(zI (xL (uu (zt (DE.w (zF (E:=E0) G_q5 (fun _ _ z=>z.elim) (hr.mono (by decide)) (by rfl) T.f_q5.m T.f_q5.k T.f_q5.d zP (z4 (zB (pv 0)) (z4 (zB (pv 1)) zA)))) (fun _=>rfl))) (zI z07) yB))
noncomputable def z5B:Env'->Mx Out:=(sSeq (sSet 4 (mBin fAdd (mC (.int 2)) (mCall xt (mCons (mVal 0) (mCons (mVal 1) (mCons (mC (.int 4)) mNil))))))
 (sSeq (sSet 5 (mBin fAdd (mVar 2) (mCall xt (mCons (mVal 0) (mCons (mVal 1) (mCons (mBin fAdd (mBin fSub (mVar 3) (mVar 2)) (mC (.int 1))) mNil))))))
 (sSeq (sOwn 6 (mSeq PyData.list mNil))
 (sSeq (sFor (mRng yW (mCons (mVar 5) mNil)) (τ1 7) (sExt 6 (mP (mComp (mRng z2s (mCons (mBin fAdd (mVar 7) (mC (.int 1))) (mCons (mVar 5) mNil))) (mTest (mBin fLt (mCall xt (mCons (mVal 0) (mCons (mVal 1) (mCons (mC (.int 6)) mNil)))) (mVar 4))) (mP (mSeq PyData.tuple (mCons (mVal 7) (mCons (mVal 8) mNil))))))))
 (sRet (mP (mSeq PyData.tuple (mCons (mVal 5) (mCons (mCallB yn (mCons (mVar 6) mNil)) mNil)))))))))
noncomputable def z3K:List D->Mx D:=mFn 8 4 z5B
theorem z7b(T:Txt K mg t):FnOk P w K mg base CX0 4 t.f_q25.a t.f_q25.d ["_law_script","_law_town","_law_low","_law_most"] (spD K EW0 z3K):=by
 have G_q23:FnOk P w K mg base CX0 3 t.f_q23.a t.f_q23.d ["_law_script","_law_town","_law_many"] (spD K EW0 xt):=z44 T;refine zZ (m:=z5B) T.f_q25.F sc_q25 rfl rfl rfl fun cdv A outer s H E hr=>?_;have hu:=y0 hr;unfold z5B;exact(zC (y4 (i:=4) sc_q25.nd rfl (by first | exact Or.inl rfl | exact Or.inr rfl) (zm yc (DE.w zD) (DE.w (zF (E:=E0) G_q23 (fun _ _ z=>z.elim) (hr.mono (by decide)) (by rfl) T.f_q23.m T.f_q23.k T.f_q23.d zP (z4 (zB (pv 0)) (z4 (zB (pv 1)) (z4 zD zA)))))))
   (zC (y4 (i:=5) sc_q25.nd rfl (by first | exact Or.inl rfl | exact Or.inr rfl) (zm yc (z7 (pv 2)) (DE.w (zF (E:=E0) G_q23 (fun _ _ z=>z.elim) (hr.mono (by decide)) (by rfl) T.f_q23.m T.f_q23.k T.f_q23.d zP (z4 (zB (pv 0)) (z4 (zB (pv 1)) (z4 (zm yc (DE.w (zm z0J (z7 (pv 3)) (z7 (pv 2)))) (DE.w zD)) zA)))))))
   (zC (uw (i:=6) sc_q25.nd rfl (by first | exact Or.inl rfl | exact Or.inr rfl) (xR zA))
   (zC (z03 PassesOwn.never rfl (yJ (by rfl) T.b_range (z8 (z7 (pv 5)) zE)) (w8 (yh (i:=7) sc_q25.nd rfl (by first | exact Or.inl rfl | exact Or.inr rfl)))
   (zI (z6O (wF PySem.F.plainAttrs_list PySem.F.slot_list_extend PySem.F.type_list_extend z1B (pv 6) (zK (DF.de (zz (N:=["_law_script","_law_town","_law_low","_law_most","_law_share","_law_many","_law_ties","_law_one"]) (sc:=(z5 (top 37))) (N':=["_law_script","_law_town","_law_low","_law_most","_law_share","_law_many","_law_ties","_law_one","_law_other"]) rfl rfl rfl (by decide +kernel) (fun _ _ _ z=>z) (z4P (by rfl) T.b_range (z8 (DE.w (zm yc (z7 (pv 7)) (DE.w zD))) (z8 (z7 (pv 5)) zE))) (fun _ _ _ _=>z0g (zj (z6L (Nat.lt_of_succ_lt hu)) (DE.w (zF (E:=E0) G_q23 (fun _ _ z=>z.elim) (hr.mono (by decide)) (by rfl) T.f_q23.m T.f_q23.k T.f_q23.d zP (z4 (zB (pv 0)) (z4 (zB (pv 1)) (z4 zD zA))))) (z7 (pv 4)) (zR _))) (fun _ _ _ _=>(yt (z4 (zB (pv 7)) (z4 (zB (pv 8)) zA)))))) pa_nil)))))
   (zI (zQ (DE.w (yt (z4 (zB (pv 5)) (z4 (ze y8 (by rfl) T.b_tuple Bt.b_tuple (z8 (z7 (pv 6)) zE)) zA))))))))))
noncomputable def z5F:Env'->Mx Out:=(sSeq (sOwn 3 (z2o yW (mCons (mVar 2) mNil)))
 (sSeq (sOwn 4 (mSeq PyData.list mNil))
 (sSeq (uo 1000 (mTest (mBin (fEq true) (mVar 3) (mP (mSeq PyData.list mNil)))) (z0Y 4 3 (mCall xt (mCons (mVal 0) (mCons (mVal 1) (mCons (mCallB fLen (mCons (mVar 3) mNil)) mNil))))))
 (sRet (mCallB yn (mCons (mVar 4) mNil))))))
noncomputable def z3T:List D->Mx D:=mFn 5 3 z5F
theorem z8N(T:Txt K mg t):FnOk P w K mg base CX0 4 t.f_q26.a t.f_q26.d ["_law_script","_law_town","_law_many"] (spD K EW0 z3T):=by
 have G_q23:FnOk P w K mg base CX0 3 t.f_q23.a t.f_q23.d ["_law_script","_law_town","_law_many"] (spD K EW0 xt):=z44 T;refine zZ (m:=z5F) T.f_q26.F sc_q26 rfl rfl rfl fun cdv A outer s H E hr=>?_;have hu:=y0 hr;unfold z5F;exact(zC (uw (i:=3) sc_q26.nd rfl (by first | exact Or.inl rfl | exact Or.inr rfl) (wX (yZ (um rfl) (by rfl) T.b_list Bt.b_list (zK (z0H (by rfl) T.b_range (z8 (z7 (pv 2)) zE)) pa_nil))))
   (zC (uw (i:=4) sc_q26.nd rfl (by first | exact Or.inl rfl | exact Or.inr rfl) (xR zA))
   (zC (z2a (k:=1000) PassesOwn.never (zj (yl hr.units) (z7 (pv 3)) (DE.w (DF.de (xR zA))) (zR _)) (zI (z3H (wF PySem.F.plainAttrs_list PySem.F.slot_list_append PySem.F.type_list_append yz (pv 4) (zK (wF PySem.F.plainAttrs_list PySem.F.slot_list_pop PySem.F.type_list_pop z2N (pv 3) (zK (zF (E:=E0) G_q23 (fun _ _ z=>z.elim) (hr.mono (by decide)) (by rfl) T.f_q23.m T.f_q23.k T.f_q23.d zP (z4 (zB (pv 0)) (z4 (zB (pv 1)) (z4 (zM ug (by rfl) T.b_len Bt.b_len (z8 (z7 (pv 3)) zE)) zA)))) pa_nil)) pa_nil)))))
   (zI (zQ (DE.w (ze y8 (by rfl) T.b_tuple Bt.b_tuple (z8 (z7 (pv 4)) zE))))))))
noncomputable def z5W:Env'->Mx Out:=(sSeq (sIf (mTest (mBin (fEq false) (mCall xt (mCons (mVal 0) (mCons (mVal 1) (mCons (mC (.int 3)) mNil)))) (mC (.int 0)))) (sRet (mCallB (fRg1 PyData.tuple) (mCons (mVar 2) mNil))) sNil)
 (sSeq (sSet 3 (mP (mComp (mRng yW (mCons (mVar 2) mNil)) (mTest (mBin (fEq false) (mCall xt (mCons (mVal 0) (mCons (mVal 1) (mCons (mC (.int 2)) mNil)))) (mC (.int 0)))) (mVal 4))))
 (sRet (mIf (mTest (mBin (fEq true) (mVar 3) (mP (mSeq PyData.list mNil)))) (mCallB yn (mCons (mVar 3) mNil)) (mP (mSeq PyData.tuple (mCons (mCall xt (mCons (mVal 0) (mCons (mVal 1) (mCons (mVal 2) mNil)))) mNil)))))))
noncomputable def z4l:List D->Mx D:=mFn 4 3 z5W
theorem z8B(T:Txt K mg t):FnOk P w K mg base CX0 4 t.f_q27.a t.f_q27.d ["_law_script","_law_town","_law_many"] (spD K EW0 z4l):=by
 have G_q23:FnOk P w K mg base CX0 3 t.f_q23.a t.f_q23.d ["_law_script","_law_town","_law_many"] (spD K EW0 xt):=z44 T;refine zZ (m:=z5W) T.f_q27.F sc_q27 rfl rfl rfl fun cdv A outer s H E hr=>?_;have hu:=y0 hr;unfold z5W;exact(zC (xL (zj (ul hr.units) (DE.w (zF (E:=E0) G_q23 (fun _ _ z=>z.elim) (hr.mono (by decide)) (by rfl) T.f_q23.m T.f_q23.k T.f_q23.d zP (z4 (zB (pv 0)) (z4 (zB (pv 1)) (z4 zD zA))))) (DE.w zD) (zR _)) (zI (zQ (DE.w (wB (yZ (uH rfl) (by rfl) T.b_tuple Bt.b_tuple (zK (z0H (by rfl) T.b_range (z8 (z7 (pv 2)) zE)) pa_nil)))))) yB)
   (zC (u8 (i:=3) (N:=["_law_script","_law_town","_law_many","_law_some"]) (sc:=(z5 (top 39))) (N':=["_law_script","_law_town","_law_many","_law_some","_law_place"]) rfl rfl rfl (by decide +kernel) sc_q27.nd rfl rfl (fun _ _ _ z=>z) (yJ (by rfl) T.b_range (z8 (z7 (pv 2)) zE)) (fun _ _ _ _=>z0g (zj (ul hr.units) (DE.w (zF (E:=E0) G_q23 (fun _ _ z=>z.elim) (hr.mono (by decide)) (by rfl) T.f_q23.m T.f_q23.k T.f_q23.d zP (z4 (zB (pv 0)) (z4 (zB (pv 1)) (z4 zD zA))))) (DE.w zD) (zR _))) (fun _ _ _ _=>(zB (pv 4))))
   (zI (zQ (z8p (zj (yl hr.units) (z7 (pv 3)) (DE.w (DF.de (xR zA))) (zR _)) (DE.w (ze y8 (by rfl) T.b_tuple Bt.b_tuple (z8 (z7 (pv 3)) zE))) (DE.w (yt (z4 (zF (E:=E0) G_q23 (fun _ _ z=>z.elim) (hr.mono (by decide)) (by rfl) T.f_q23.m T.f_q23.k T.f_q23.d zP (z4 (zB (pv 0)) (z4 (zB (pv 1)) (z4 (zB (pv 2)) zA)))) zA))))))))
noncomputable def b_q7:Env'->Mx Out:=(sSeq (sIf (mNotT (mTru (mCall F_q6 (mCons (mVal 0) mNil)))) (sRet (mC (.bool false))) sNil)
 (sRet (mAndV (mCallB (zn fun bs=>bs.all id) (mCons (mP (mComp (mIt (mBin fIx (mVar 0) (mC (.int 1)))) mYes (mCall F_q4 (mCons (mVal 1) (mCons (mBin fIx (mVar 0) (mC (.int 0))) mNil))))) mNil)) (mCall F_q2 (mCons (mBin fIx (mVar 0) (mC (.int 1))) mNil)))))
noncomputable def F_q7:List D->Mx D:=mFn 1 1 b_q7
theorem z96(T:Txt K mg t):FnOk P w K mg base CX0 5 t.f_q7.a t.f_q7.d ["thing"] (spD K EW0 F_q7):=by
 have G_q6:FnOk P w K mg base CX0 2 t.f_q6.a t.f_q6.d ["thing"] (spD K EW0 F_q6):=z8U T;have G_q2:FnOk P w K mg base CX0 1 t.f_q2.a t.f_q2.d ["things"] (spD K EW0 F_q2):=z7h T;have G_q4:FnOk P w K mg base CX0 4 t.f_q4.a t.f_q4.d ["thing","many"] (spD K EW0 F_q4):=z8z T;refine zZ (m:=b_q7) T.f_q7.F z8Y rfl rfl rfl fun cdv A outer s H E hr=>?_;have hu:=y0 hr;unfold b_q7;exact(zC (xL (uu (zt (DE.w (zF (E:=E0) G_q6 (fun _ _ z=>z.elim) (hr.mono (by decide)) (by rfl) T.f_q6.m T.f_q6.k T.f_q6.d zP (z4 (zB (pv 0)) zA))) (fun _=>rfl))) (zI (zQ (DE.w z1I))) yB)
   (zI (zQ (DE.w (wW (DE.w (zM (uh rfl) (by rfl) T.b_all Bt.b_all (z8 (DE.w (DF.de (zz (N:=["thing"]) (sc:=(z5 (top 14))) (N':=["thing","each"]) rfl rfl rfl (by decide +kernel) zW (yS (DE.w (zT hu (z7 (pv 0)) (DE.w zD) (fun _ _=>rfl)))) (fun _ _ _ _=>yM) (fun _ _ _ _=>(zF (E:=E0) G_q4 (fun _ _ z=>z.elim) (hr.mono (by decide)) (by rfl) T.f_q4.m T.f_q4.k T.f_q4.d zP (z4 (zB (pv 1)) (z4 (zT hu (z7 (pv 0)) (DE.w zD) (fun _ _=>rfl)) zA))))))) zE))) (uf (zF (E:=E0) G_q2 (fun _ _ z=>z.elim) (hr.mono (by decide)) (by rfl) T.f_q2.m T.f_q2.k T.f_q2.d zP (z4 (zT hu (z7 (pv 0)) (DE.w zD) (fun _ _=>rfl)) zA))))))))
noncomputable def b_q8:Env'->Mx Out:=(sIf (mNotT (mTru (mCall F_q7 (mCons (mVal 0) mNil)))) z2D sNil)
noncomputable def F_q8:List D->Mx D:=mFn 1 1 b_q8
theorem z6i(T:Txt K mg t):FnOk P w K mg base CX0 6 t.f_q8.a t.f_q8.d ["web"] (spD K EW0 F_q8):=by
 have G_q7:FnOk P w K mg base CX0 5 t.f_q7.a t.f_q7.d ["thing"] (spD K EW0 F_q7):=z96 T;refine zZ (m:=b_q8) T.f_q8.F z95 rfl rfl rfl fun cdv A outer s H E hr=>?_;have hu:=y0 hr;unfold b_q8;exact(zI (xL (uu (zt (DE.w (zF (E:=E0) G_q7 (fun _ _ z=>z.elim) (hr.mono (by decide)) (by rfl) T.f_q7.m T.f_q7.k T.f_q7.d zP (z4 (zB (pv 0)) zA))) (fun _=>rfl))) (zI z07) yB))
noncomputable def z5C:Env'->Mx Out:=(sSeq (sExpr (mCall F_q8 (mCons (mVal 0) mNil)))
 (sSeq (sExpr (mCall z4E (mCons (mVal 1) (mCons (mBin fIx (mVar 0) (mC (.int 0))) mNil))))
 (sSeq (sSet 2 (mP (mComp (mIt (mBin fIx (mVar 0) (mC (.int 1)))) mYes (mCallB yn (mCons (mCallB zV (mCons (mP (mSeq PyData.list (mCons (mBin fIx (mVar 1) (mBin fIx (mVar 3) (mC (.int 0)))) (mCons (mBin fIx (mVar 1) (mBin fIx (mVar 3) (mC (.int 1)))) mNil)))) mNil)) mNil)))))
 (sRet (mP (mSeq PyData.tuple (mCons (mBin fIx (mVar 0) (mC (.int 0))) (mCons (mCallB yn (mCons (mCallB zV (mCons (mVar 2) mNil)) mNil)) mNil))))))))
noncomputable def z2j:List D->Mx D:=mFn 3 2 z5C
theorem z8M(T:Txt K mg t):FnOk P w K mg base CX0 7 t.f_q11.a t.f_q11.d ["web","names"] (spD K EW0 z2j):=by
 have G_q8:FnOk P w K mg base CX0 6 t.f_q8.a t.f_q8.d ["web"] (spD K EW0 F_q8):=z6i T;have G_q10:FnOk P w K mg base CX0 4 t.f_q10.a t.f_q10.d ["names","many"] (spD K EW0 z4E):=z85 T;refine zZ (m:=z5C) T.f_q11.F sc_q11 rfl rfl rfl fun cdv A outer s H E hr=>?_;have hu:=y0 hr;unfold z5C;exact(zC (yu (zF (E:=E0) G_q8 (fun _ _ z=>z.elim) (hr.mono (by decide)) (by rfl) T.f_q8.m T.f_q8.k T.f_q8.d zP (z4 (zB (pv 0)) zA)))
   (zC (yu (zF (E:=E0) G_q10 (fun _ _ z=>z.elim) (hr.mono (by decide)) (by rfl) T.f_q10.m T.f_q10.k T.f_q10.d zP (z4 (zB (pv 1)) (z4 (zT hu (z7 (pv 0)) (DE.w zD) (fun _ _=>rfl)) zA))))
   (zC (u8 (i:=2) (N:=["web","names","ties"]) (sc:=(z5 (top 19))) (N':=["web","names","ties","tie"]) rfl rfl rfl (by decide +kernel) sc_q11.nd rfl rfl zW (yS (DE.w (zT hu (z7 (pv 0)) (DE.w zD) (fun _ _=>rfl)))) (fun _ _ _ _=>yM) (fun _ _ _ _=>(ze y8 (by rfl) T.b_tuple Bt.b_tuple (z8 (DE.w (zM (yE rfl hr.units) (by rfl) T.b_sorted Bt.b_sorted (z8 (DE.w (DF.de (xR (z4 (zT hu (z7 (pv 1)) (DE.w (zT hu (z7 (pv 3)) (DE.w zD) (fun _ _=>rfl))) (fun _ _=>rfl)) (z4 (zT hu (z7 (pv 1)) (DE.w (zT hu (z7 (pv 3)) (DE.w zD) (fun _ _=>rfl))) (fun _ _=>rfl)) zA))))) zE))) zE))))
   (zI (zQ (DE.w (yt (z4 (zT hu (z7 (pv 0)) (DE.w zD) (fun _ _=>rfl)) (z4 (ze y8 (by rfl) T.b_tuple Bt.b_tuple (z8 (DE.w (zM (yE rfl hr.units) (by rfl) T.b_sorted Bt.b_sorted (z8 (z7 (pv 2)) zE))) zE)) zA)))))))))
noncomputable def z5g:Env'->Mx Out:=(sSeq (sExpr (mCall F_q8 (mCons (mVal 0) mNil)))
 (sExpr (mCall F_q9 (mCons (mVal 1) (mCons (mBin fIx (mVar 0) (mC (.int 0))) mNil)))))
noncomputable def z0P:List D->Mx D:=mFn 2 2 z5g
theorem z4G(T:Txt K mg t):FnOk P w K mg base CX0 7 t.f_q12.a t.f_q12.d ["web","places"] (spD K EW0 z0P):=by
 have G_q8:FnOk P w K mg base CX0 6 t.f_q8.a t.f_q8.d ["web"] (spD K EW0 F_q8):=z6i T;have G_q9:FnOk P w K mg base CX0 4 t.f_q9.a t.f_q9.d ["places","many"] (spD K EW0 F_q9):=z8c T;refine zZ (m:=z5g) T.f_q12.F z8P rfl rfl rfl fun cdv A outer s H E hr=>?_;have hu:=y0 hr;unfold z5g;exact(zC (yu (zF (E:=E0) G_q8 (fun _ _ z=>z.elim) (hr.mono (by decide)) (by rfl) T.f_q8.m T.f_q8.k T.f_q8.d zP (z4 (zB (pv 0)) zA)))
   (zI (yu (zF (E:=E0) G_q9 (fun _ _ z=>z.elim) (hr.mono (by decide)) (by rfl) T.f_q9.m T.f_q9.k T.f_q9.d zP (z4 (zB (pv 1)) (z4 (zT hu (z7 (pv 0)) (DE.w zD) (fun _ _=>rfl)) zA))))))
noncomputable def z57:Env'->Mx Out:=(sSeq (sExpr (mCall F_q8 (mCons (mVal 0) mNil)))
 (sSeq (sSet 1 (mCall z06 (mCons (mVal 0) (mCons (mCallB (fRg1 PyData.tuple) (mCons (mBin fIx (mVar 0) (mC (.int 0))) mNil)) mNil))))
 (sSeq (sSet 2 (mMinD (mP (xM (mVal 1) mYes (mCallB z0u (mCons (mBin fIx (mVar 1) (mVar 3)) mNil)))) (mC (.int 0))))
 (sRet (mP (xM (mVal 1) (mTest (mBin (fEq false) (mCallB z0u (mCons (mBin fIx (mVar 1) (mVar 3)) mNil)) (mVar 2))) (mVal 3)))))))
noncomputable def z2l:List D->Mx D:=mFn 3 1 z57
theorem z8H(T:Txt K mg t):FnOk P w K mg base CX0 7 t.f_q20.a t.f_q20.d ["web"] (spD K EW0 z2l):=by
 have G_q8:FnOk P w K mg base CX0 6 t.f_q8.a t.f_q8.d ["web"] (spD K EW0 F_q8):=z6i T;have G_q15:FnOk P w K mg base CX0 2 t.f_q15.a t.f_q15.d ["web","places"] (spD K EW0 z06):=z4w T;refine zZ (m:=z57) T.f_q20.F sc_q20 rfl rfl rfl fun cdv A outer s H E hr=>?_;have hu:=y0 hr;unfold z57;exact(zC (yu (zF (E:=E0) G_q8 (fun _ _ z=>z.elim) (hr.mono (by decide)) (by rfl) T.f_q8.m T.f_q8.k T.f_q8.d zP (z4 (zB (pv 0)) zA)))
   (zC (y4 (i:=1) sc_q20.nd rfl (by first | exact Or.inl rfl | exact Or.inr rfl) (zF (E:=E0) G_q15 (fun _ _ z=>z.elim) (hr.mono (by decide)) (by rfl) T.f_q15.m T.f_q15.k T.f_q15.d zP (z4 (zB (pv 0)) (z4 (wB (yZ (uH rfl) (by rfl) T.b_tuple Bt.b_tuple (zK (z0H (by rfl) T.b_range (z8 (DE.w (zT hu (z7 (pv 0)) (DE.w zD) (fun _ _=>rfl))) zE)) pa_nil))) zA))))
   (zC (y4 (i:=2) sc_q20.nd rfl (by first | exact Or.inl rfl | exact Or.inr rfl) (z1f rfl hr.units (by rfl) T.b_min Bt.b_min (DE.w (DF.de (wR (N:=["web","ways","least"]) (sc:=(z5 (top 31))) (N':=["web","ways","least","place"]) rfl rfl rfl (by decide +kernel) zW (zB (pv 1)) (fun _ _ _ _=>yM) (fun _ _ _ _=>(zM (z1p rfl) (by rfl) T.b_max Bt.b_max (z8 (DE.w (zT hu (z7 (pv 1)) (z7 (pv 3)) (fun _ _=>rfl))) zE)))))) zD))
   (zI (zQ (DE.w (DF.de (wR (N:=["web","ways","least"]) (sc:=(z5 (top 31))) (N':=["web","ways","least","place"]) rfl rfl rfl (by decide +kernel) (fun _ _ _ z=>z) (zB (pv 1)) (fun _ _ _ _=>z0g (zj (ul hr.units) (DE.w (zM (z1p rfl) (by rfl) T.b_max Bt.b_max (z8 (DE.w (zT hu (z7 (pv 1)) (z7 (pv 3)) (fun _ _=>rfl))) zE))) (z7 (pv 2)) (zR _))) (fun _ _ _ _=>(zB (pv 3)))))))))))
noncomputable def z5m:Env'->Mx Out:=(sSeq (sExpr (mCall z0P (mCons (mVal 0) (mCons (mVal 1) mNil))))
 (sSeq (sSet 2 (mCall z06 (mCons (mVal 0) (mCons (mVal 1) mNil))))
 (sRet (mMinD (mP (xM (mVal 2) mYes (mP (mSeq PyData.tuple (mCons (mCallB fSum (mCons (mBin fIx (mVar 2) (mVar 3)) mNil)) (mCons (mVal 3) mNil)))))) (mC .none)))))
noncomputable def z2q:List D->Mx D:=mFn 3 2 z5m
theorem z7t(T:Txt K mg t):FnOk P w K mg base CX0 8 t.f_q16.a t.f_q16.d ["web","places"] (spD K EW0 z2q):=by
 have G_q12:FnOk P w K mg base CX0 7 t.f_q12.a t.f_q12.d ["web","places"] (spD K EW0 z0P):=z4G T;have G_q15:FnOk P w K mg base CX0 2 t.f_q15.a t.f_q15.d ["web","places"] (spD K EW0 z06):=z4w T;refine zZ (m:=z5m) T.f_q16.F sc_q16 rfl rfl rfl fun cdv A outer s H E hr=>?_;have hu:=y0 hr;unfold z5m;exact(zC (yu (zF (E:=E0) G_q12 (fun _ _ z=>z.elim) (hr.mono (by decide)) (by rfl) T.f_q12.m T.f_q12.k T.f_q12.d zP (z4 (zB (pv 0)) (z4 (zB (pv 1)) zA))))
   (zC (y4 (i:=2) sc_q16.nd rfl (by first | exact Or.inl rfl | exact Or.inr rfl) (zF (E:=E0) G_q15 (fun _ _ z=>z.elim) (hr.mono (by decide)) (by rfl) T.f_q15.m T.f_q15.k T.f_q15.d zP (z4 (zB (pv 0)) (z4 (zB (pv 1)) zA))))
   (zI (zQ (DE.w (z1f rfl hr.units (by rfl) T.b_min Bt.b_min (DE.w (DF.de (wR (N:=["web","places","ways"]) (sc:=(z5 (top 25))) (N':=["web","places","ways","place"]) rfl rfl rfl (by decide +kernel) zW (zB (pv 2)) (fun _ _ _ _=>yM) (fun _ _ _ _=>(yt (z4 (zM (z8K rfl) (by rfl) T.b_sum Bt.b_sum (z8 (DE.w (zT hu (z7 (pv 2)) (z7 (pv 3)) (fun _ _=>rfl))) zE)) (z4 (zB (pv 3)) zA))))))) yC))))))
noncomputable def z5w:Env'->Mx Out:=(sSeq (sExpr (mCall z0P (mCons (mVal 0) (mCons (mVal 1) mNil))))
 (sSeq (sSet 2 (mCall uV (mCons (mVal 0) mNil)))
 (sSeq (sSet 3 (mP (mComp (mIt (mVar 1)) mYes (mP (mSeq PyData.list (mCons (mVal 6) mNil))))))
 (sSeq (sFor (mRng yW (mCons (mBin fMul (mC (.int 2)) (mBin fIx (mVar 0) (mC (.int 0)))) mNil)) (τ1 4) (sSeq (sFor (mRng yW (mCons (mBin fIx (mVar 0) (mC (.int 0))) mNil)) (τ1 5) (sIf (mTru (mCallB (zn fun bs=>bs.all id) (mCons (mP (mComp (mIt (mVar 3)) mYes (mBin (fIn false) (mVar 5) (mVar 6)))) mNil))) (sRet (mP (mSeq PyData.tuple (mCons (mVal 4) (mCons (mVal 5) mNil))))) sNil))
 (sSet 3 (mP (mComp (mIt (mVar 3)) mYes (mCall z3R (mCons (mVal 2) (mCons (mVal 6) mNil))))))))
 (sRet (mC .none))))))
noncomputable def z1R:List D->Mx D:=mFn 6 2 z5w
theorem z6A(T:Txt K mg t):FnOk P w K mg base CX0 8 t.f_q18.a t.f_q18.d ["web","places"] (spD K EW0 z1R):=by
 have G_q12:FnOk P w K mg base CX0 7 t.f_q12.a t.f_q12.d ["web","places"] (spD K EW0 z0P):=z4G T;have G_q13:FnOk P w K mg base CX0 1 t.f_q13.a t.f_q13.d ["web"] (spD K EW0 uV):=z3j T;have G_q17:FnOk P w K mg base CX0 1 t.f_q17.a t.f_q17.d ["tied","could_be"] (spD K EW0 z3R):=z8R T;refine zZ (m:=z5w) T.f_q18.F sc_q18 rfl rfl rfl fun cdv A outer s H E hr=>?_;have hu:=y0 hr;unfold z5w;exact(zC (yu (zF (E:=E0) G_q12 (fun _ _ z=>z.elim) (hr.mono (by decide)) (by rfl) T.f_q12.m T.f_q12.k T.f_q12.d zP (z4 (zB (pv 0)) (z4 (zB (pv 1)) zA))))
   (zC (y4 (i:=2) sc_q18.nd rfl (by first | exact Or.inl rfl | exact Or.inr rfl) (zF (E:=E0) G_q13 (fun _ _ z=>z.elim) (hr.mono (by decide)) (by rfl) T.f_q13.m T.f_q13.k T.f_q13.d zP (z4 (zB (pv 0)) zA)))
   (zC (u8 (i:=3) (N:=["web","places","tied","could_be","moves","place"]) (sc:=(z5 (top 27))) (N':=["web","places","tied","could_be","moves","place","start"]) rfl rfl rfl (by decide +kernel) sc_q18.nd rfl rfl zW (yS (z7 (pv 1))) (fun _ _ _ _=>yM) (fun _ _ _ _=>(DF.de (xR (z4 (zB (pv 6)) zA)))))
   (zC (z03 PassesOwn.never rfl (yJ (by rfl) T.b_range (z8 (DE.w (zm z21 (DE.w zD) (DE.w (zT hu (z7 (pv 0)) (DE.w zD) (fun _ _=>rfl))))) zE)) (w8 (yh (i:=4) sc_q18.nd rfl (by first | exact Or.inl rfl | exact Or.inr rfl)))
   (zC (z03 PassesOwn.never rfl (yJ (by rfl) T.b_range (z8 (DE.w (zT hu (z7 (pv 0)) (DE.w zD) (fun _ _=>rfl))) zE)) (w8 (yh (i:=5) sc_q18.nd rfl (by first | exact Or.inl rfl | exact Or.inr rfl)))
   (zI (xL (zt (DE.w (zM (uh rfl) (by rfl) T.b_all Bt.b_all (z8 (DE.w (DF.de (zz (N:=["web","places","tied","could_be","moves","place"]) (sc:=(z5 (top 27))) (N':=["web","places","tied","could_be","moves","place","each"]) rfl rfl rfl (by decide +kernel) zW (yS (z7 (pv 3))) (fun _ _ _ _=>yM) (fun _ _ _ _=>(y6 (we hr.units) (z7 (pv 5)) (z7 (pv 6)) (by rfl)))))) zE))) (fun _=>rfl)) (zI (zQ (DE.w (yt (z4 (zB (pv 4)) (z4 (zB (pv 5)) zA)))))) yB)))
   (zI (u8 (i:=3) (N:=["web","places","tied","could_be","moves","place"]) (sc:=(z5 (top 27))) (N':=["web","places","tied","could_be","moves","place","each"]) rfl rfl rfl (by decide +kernel) sc_q18.nd rfl rfl zW (yS (z7 (pv 3))) (fun _ _ _ _=>yM) (fun _ _ _ _=>(zF (E:=E0) G_q17 (fun _ _ z=>z.elim) (hr.mono (by decide)) (by rfl) T.f_q17.m T.f_q17.k T.f_q17.d zP (z4 (zB (pv 2)) (z4 (zB (pv 6)) zA))))))))
   (zI (zQ (DE.w yC)))))))
noncomputable def z5U:Env'->Mx Out:=(sSeq (sExpr (mCall z0P (mCons (mVal 0) (mCons (mVal 1) mNil))))
 (sSeq (sSet 2 (mCall z06 (mCons (mVal 0) (mCons (mVal 1) mNil))))
 (sRet (mMinD (mP (xM (mVal 2) mYes (mP (mSeq PyData.tuple (mCons (mCallB z0u (mCons (mBin fIx (mVar 2) (mVar 3)) mNil)) (mCons (mVal 3) mNil)))))) (mC .none)))))
noncomputable def z3A:List D->Mx D:=mFn 3 2 z5U
theorem z8O(T:Txt K mg t):FnOk P w K mg base CX0 8 t.f_q19.a t.f_q19.d ["web","places"] (spD K EW0 z3A):=by
 have G_q12:FnOk P w K mg base CX0 7 t.f_q12.a t.f_q12.d ["web","places"] (spD K EW0 z0P):=z4G T;have G_q15:FnOk P w K mg base CX0 2 t.f_q15.a t.f_q15.d ["web","places"] (spD K EW0 z06):=z4w T;refine zZ (m:=z5U) T.f_q19.F sc_q19 rfl rfl rfl fun cdv A outer s H E hr=>?_;have hu:=y0 hr;unfold z5U;exact(zC (yu (zF (E:=E0) G_q12 (fun _ _ z=>z.elim) (hr.mono (by decide)) (by rfl) T.f_q12.m T.f_q12.k T.f_q12.d zP (z4 (zB (pv 0)) (z4 (zB (pv 1)) zA))))
   (zC (y4 (i:=2) sc_q19.nd rfl (by first | exact Or.inl rfl | exact Or.inr rfl) (zF (E:=E0) G_q15 (fun _ _ z=>z.elim) (hr.mono (by decide)) (by rfl) T.f_q15.m T.f_q15.k T.f_q15.d zP (z4 (zB (pv 0)) (z4 (zB (pv 1)) zA))))
   (zI (zQ (DE.w (z1f rfl hr.units (by rfl) T.b_min Bt.b_min (DE.w (DF.de (wR (N:=["web","places","ways"]) (sc:=(z5 (top 30))) (N':=["web","places","ways","place"]) rfl rfl rfl (by decide +kernel) zW (zB (pv 2)) (fun _ _ _ _=>yM) (fun _ _ _ _=>(yt (z4 (zM (z1p rfl) (by rfl) T.b_max Bt.b_max (z8 (DE.w (zT hu (z7 (pv 2)) (z7 (pv 3)) (fun _ _=>rfl))) zE)) (z4 (zB (pv 3)) zA))))))) yC))))))
noncomputable def z5x:Env'->Mx Out:=(sSeq (sIf (mTest (mBin (fIs true) (mCall z1R (mCons (mVal 0) (mCons (mVal 1) mNil))) (mC .none))) (sRet (mC .none)) sNil)
 (sSeq (sSet 2 (mCall z1r (mCons (mCall uV (mCons (mVal 0) mNil)) (mCons (mBin fIx (mVar 1) (mC (.int 0))) mNil))))
 (sSeq (sIf (mTru (mCallB (zn fun bs=>bs.all id) (mCons (mP (mComp (mIt (mVar 1)) mYes (mBin (fIn false) (mVar 3) (mVar 2)))) mNil))) (sRet (mCallB yn (mCons (mP (mComp (mRng yW (mCons (mBin fIx (mVar 0) (mC (.int 0))) mNil)) mYes (mIf (mTest (mBin (fIn false) (mVar 3) (mVar 2))) (mBin fMod (mBin fIx (mVar 2) (mVar 3)) (mC (.int 2))) (mC (.int 2))))) mNil))) sNil)
 (sRet (mCallB yn (mCons (mP (mComp (mRng yW (mCons (mBin fIx (mVar 0) (mC (.int 0))) mNil)) mYes (mIf (mTest (mBin (fIn false) (mVar 3) (mVar 2))) (mC (.int 2)) (mC (.int 3))))) mNil))))))
noncomputable def z1b:List D->Mx D:=mFn 3 2 z5x
theorem z7H(T:Txt K mg t):FnOk P w K mg base CX0 9 t.f_bar.a t.f_bar.d ["web","places"] (spD K EW0 z1b):=by
 have G_q18:FnOk P w K mg base CX0 8 t.f_q18.a t.f_q18.d ["web","places"] (spD K EW0 z1R):=z6A T;have G_q14:FnOk P w K mg base CX0 1 t.f_q14.a t.f_q14.d ["tied","start"] (spD K EW0 z1r):=z6G T;have G_q13:FnOk P w K mg base CX0 1 t.f_q13.a t.f_q13.d ["web"] (spD K EW0 uV):=z3j T;refine zZ (m:=z5x) T.f_bar.F sc_bar rfl rfl rfl fun cdv A outer s H E hr=>?_;have hu:=y0 hr;unfold z5x;exact(zC (xL (zj xk (DE.w (zF (E:=E0) G_q18 (fun _ _ z=>z.elim) (hr.mono (by decide)) (by rfl) T.f_q18.m T.f_q18.k T.f_q18.d zP (z4 (zB (pv 0)) (z4 (zB (pv 1)) zA)))) (DE.w yC) (zR _)) (zI (zQ (DE.w yC))) yB)
   (zC (y4 (i:=2) sc_bar.nd rfl (by first | exact Or.inl rfl | exact Or.inr rfl) (zF (E:=E0) G_q14 (fun _ _ z=>z.elim) (hr.mono (by decide)) (by rfl) T.f_q14.m T.f_q14.k T.f_q14.d zP (z4 (zF (E:=E0) G_q13 (fun _ _ z=>z.elim) (hr.mono (by decide)) (by rfl) T.f_q13.m T.f_q13.k T.f_q13.d zP (z4 (zB (pv 0)) zA)) (z4 (zT hu (z7 (pv 1)) (DE.w zD) (fun _ _=>rfl)) zA))))
   (zC (xL (zt (DE.w (zM (uh rfl) (by rfl) T.b_all Bt.b_all (z8 (DE.w (DF.de (zz (N:=["web","places","far"]) (sc:=(z5 (top 28))) (N':=["web","places","far","place"]) rfl rfl rfl (by decide +kernel) zW (yS (z7 (pv 1))) (fun _ _ _ _=>yM) (fun _ _ _ _=>(y6 (we hr.units) (z7 (pv 3)) (z7 (pv 2)) (by rfl)))))) zE))) (fun _=>rfl)) (zI (zQ (DE.w (ze y8 (by rfl) T.b_tuple Bt.b_tuple (z8 (DE.w (DF.de (zz (N:=["web","places","far"]) (sc:=(z5 (top 28))) (N':=["web","places","far","place"]) rfl rfl rfl (by decide +kernel) zW (yJ (by rfl) T.b_range (z8 (DE.w (zT hu (z7 (pv 0)) (DE.w zD) (fun _ _=>rfl))) zE)) (fun _ _ _ _=>yM) (fun _ _ _ _=>(z7r (zj (we hr.units) (z7 (pv 3)) (z7 (pv 2)) (by rfl)) (zm uB (DE.w (zT hu (z7 (pv 2)) (z7 (pv 3)) (fun _ _=>rfl))) (DE.w zD)) zD))))) zE))))) yB)
   (zI (zQ (DE.w (ze y8 (by rfl) T.b_tuple Bt.b_tuple (z8 (DE.w (DF.de (zz (N:=["web","places","far"]) (sc:=(z5 (top 28))) (N':=["web","places","far","place"]) rfl rfl rfl (by decide +kernel) zW (yJ (by rfl) T.b_range (z8 (DE.w (zT hu (z7 (pv 0)) (DE.w zD) (fun _ _=>rfl))) zE)) (fun _ _ _ _=>yM) (fun _ _ _ _=>(z7r (zj (we hr.units) (z7 (pv 3)) (z7 (pv 2)) (by rfl)) zD zD))))) zE))))))))
noncomputable def z2x(t:Adr):Env'->Mx Out:=(sSeq (sSet 2 (mCall z3K (mCons (mVal 0) (mCons (mVal 1) (mCons (mC (.int 1)) (mCons (mC (.int 8)) mNil))))))
 (sSeq (sSet 3 (mCall z3T (mCons (mVal 0) (mCons (mVal 1) (mCons (mBin fIx (mVar 2) (mC (.int 0))) mNil)))))
 (sSeq (sSet 4 (mCall z4l (mCons (mVal 0) (mCons (mVal 1) (mCons (mBin fIx (mVar 2) (mC (.int 0))) mNil)))))
 (sSeq (sSet 5 (mCall z2j (mCons (mVal 2) (mCons (mVal 3) mNil))))
 (sSeq (sOwn 6 (mSeq PyData.list mNil))
 (sSeq (sFor (mRng yW (mCons (mBin fIx (mVar 2) (mC (.int 0))) mNil)) (τ1 7) (sFor (mRng z2s (mCons (mBin fAdd (mVar 7) (mC (.int 1))) (mCons (mBin fIx (mVar 2) (mC (.int 0))) mNil))) (τ1 8) (sSeq (sSet 9 (mCallB zV (mCons (mP (mSeq PyData.list (mCons (z3B (mVal 3) (mVal 7)) (mCons (z3B (mVal 3) (mVal 8)) mNil)))) mNil)))
 (sExt 6 (mP (z6n (mP (mSeq PyData.list (mCons (mP (mSeq PyData.tuple (mCons (mVal 7) (mCons (mVal 8) mNil)))) mNil))) (mCallB z5u (mCons (mBin (fIn false) (mP (mSeq PyData.tuple (mCons (mBin fIx (mVar 9) (mC (.int 0))) (mCons (mBin fIx (mVar 9) (mC (.int 1))) mNil)))) (mBin fIx (mVar 2) (mC (.int 1)))) mNil))))))))
 (sSeq (sSet 10 (mCallB yn (mCons (mP (mComp (mRng yW (mCons (mBin fIx (mVar 2) (mC (.int 0))) mNil)) mYes (z3B (mVal 3) (mVal 15)))) mNil)))
 (sSeq (sIf (mOrT (mTest (mBin (fEq true) (mVar 5) (mP (mSeq PyData.tuple (mCons (mBin fIx (mVar 2) (mC (.int 0))) (mCons (mCallB yn (mCons (mVar 6) mNil)) mNil)))))) (mTest (mBin (fEq true) (mCall z2j (mCons (mVal 5) (mCons (mVal 10) mNil))) (mVar 2)))) (sRet (mC (.bool false))) sNil)
 (sSeq (sSet 11 (mCallB yn (mCons (mCallB zV (mCons (mP (mComp (mIt (mVar 4)) mYes (mBin fIx (mVar 3) (mVar 15)))) mNil)) mNil)))
 (sSeq (z27 12 [t.f_q16.a,t.f_q18.a,t.f_q19.a] [(sSeq (sPar 13 14 (mCons (xP 12 t.f_q16.a z2q (mCons (mVal 2) (mCons (mVal 4) mNil))) (mCons (xP 12 t.f_q16.a z2q (mCons (mVal 5) (mCons (mVal 11) mNil))) mNil)))
 (sIf (mOrT (mTest (mBin (fEq true) (mBin (fIs false) (mVar 13) (mC .none)) (mBin (fIs false) (mVar 14) (mC .none)))) (mAndT (mTest (mBin (fIs true) (mVar 13) (mC .none))) (mTest (mBin (fEq true) (mBin fIx (mVar 13) (mC (.int 0))) (mBin fIx (mVar 14) (mC (.int 0))))))) (sRet (mC (.bool false))) sNil)),(sSeq (sPar 13 14 (mCons (xP 12 t.f_q18.a z1R (mCons (mVal 2) (mCons (mVal 4) mNil))) (mCons (xP 12 t.f_q18.a z1R (mCons (mVal 5) (mCons (mVal 11) mNil))) mNil)))
 (sIf (mOrT (mTest (mBin (fEq true) (mBin (fIs false) (mVar 13) (mC .none)) (mBin (fIs false) (mVar 14) (mC .none)))) (mAndT (mTest (mBin (fIs true) (mVar 13) (mC .none))) (mTest (mBin (fEq true) (mBin fIx (mVar 13) (mC (.int 0))) (mBin fIx (mVar 14) (mC (.int 0))))))) (sRet (mC (.bool false))) sNil)),(sSeq (sPar 13 14 (mCons (xP 12 t.f_q19.a z3A (mCons (mVal 2) (mCons (mVal 4) mNil))) (mCons (xP 12 t.f_q19.a z3A (mCons (mVal 5) (mCons (mVal 11) mNil))) mNil)))
 (sIf (mOrT (mTest (mBin (fEq true) (mBin (fIs false) (mVar 13) (mC .none)) (mBin (fIs false) (mVar 14) (mC .none)))) (mAndT (mTest (mBin (fIs true) (mVar 13) (mC .none))) (mTest (mBin (fEq true) (mBin fIx (mVar 13) (mC (.int 0))) (mBin fIx (mVar 14) (mC (.int 0))))))) (sRet (mC (.bool false))) sNil))])
 (sSeq (sIf (mTest (mBin (fEq true) (mBin (fIs false) (mCall z1b (mCons (mVal 2) (mCons (mVal 4) mNil))) (mC .none)) (mBin (fIs false) (mCall z1b (mCons (mVal 5) (mCons (mVal 11) mNil))) (mC .none)))) (sRet (mC (.bool false))) sNil)
 (sRet (mBin (fEq false) (mCall z2l (mCons (mVal 5) mNil)) (mCallB zV (mCons (mP (mComp (mIt (mCall z2l (mCons (mVal 2) mNil))) mYes (mBin fIx (mVar 3) (mVar 15)))) mNil)))))))))))))))
theorem z8F(T:Txt K mg t)(tells:z6e 15 (z2x t)):FnOk P w K mg base CX0 10 t.f_law.a t.f_law.d ["_law_script"] (z4Z K):=by
 have G_q25:FnOk P w K mg base CX0 4 t.f_q25.a t.f_q25.d ["_law_script","_law_town","_law_low","_law_most"] (spD K EW0 z3K):=z7b T;have G_q26:FnOk P w K mg base CX0 4 t.f_q26.a t.f_q26.d ["_law_script","_law_town","_law_many"] (spD K EW0 z3T):=z8N T;have G_q27:FnOk P w K mg base CX0 4 t.f_q27.a t.f_q27.d ["_law_script","_law_town","_law_many"] (spD K EW0 z4l):=z8B T;have G_q11:FnOk P w K mg base CX0 7 t.f_q11.a t.f_q11.d ["web","names"] (spD K EW0 z2j):=z8M T;have G_q16:FnOk P w K mg base CX0 8 t.f_q16.a t.f_q16.d ["web","places"] (spD K EW0 z2q):=z7t T;have G_q18:FnOk P w K mg base CX0 8 t.f_q18.a t.f_q18.d ["web","places"] (spD K EW0 z1R):=z6A T;have G_q19:FnOk P w K mg base CX0 8 t.f_q19.a t.f_q19.d ["web","places"] (spD K EW0 z3A):=z8O T;have G_bar:FnOk P w K mg base CX0 9 t.f_bar.a t.f_bar.d ["web","places"] (spD K EW0 z1b):=z7H T;have G_q20:FnOk P w K mg base CX0 7 t.f_q20.a t.f_q20.d ["web"] (spD K EW0 z2l):=z8H T;refine z8S (m:=z2x t) T.f_law.F sc_law rfl (by decide) rfl (fun cdv A outer s H E=>?_) (fun cdv A outer s H E hr=>?_) tells
 ·exact z2L (i:=1) sc_law.nd rfl (by first | exact Or.inl rfl | exact Or.inr rfl) (z2T pa_nil)
 ·have hu:=y0 hr;unfold z2x;exact(zC (y4 (i:=2) sc_law.nd rfl (by first | exact Or.inl rfl | exact Or.inr rfl) (zF (E:=E0) G_q25 (fun _ _ z=>z.elim) (hr.mono (by decide)) (by rfl) T.f_q25.m T.f_q25.k T.f_q25.d zP (z4 (zB (pv 0)) (z4 (zB (pv 1)) (z4 zD (z4 zD zA))))))
   (zC (y4 (i:=3) sc_law.nd rfl (by first | exact Or.inl rfl | exact Or.inr rfl) (zF (E:=E0) G_q26 (fun _ _ z=>z.elim) (hr.mono (by decide)) (by rfl) T.f_q26.m T.f_q26.k T.f_q26.d zP (z4 (zB (pv 0)) (z4 (zB (pv 1)) (z4 (zT hu (z7 (pv 2)) (DE.w zD) (fun _ _=>rfl)) zA)))))
   (zC (y4 (i:=4) sc_law.nd rfl (by first | exact Or.inl rfl | exact Or.inr rfl) (zF (E:=E0) G_q27 (fun _ _ z=>z.elim) (hr.mono (by decide)) (by rfl) T.f_q27.m T.f_q27.k T.f_q27.d zP (z4 (zB (pv 0)) (z4 (zB (pv 1)) (z4 (zT hu (z7 (pv 2)) (DE.w zD) (fun _ _=>rfl)) zA)))))
   (zC (y4 (i:=5) sc_law.nd rfl (by first | exact Or.inl rfl | exact Or.inr rfl) (zF (E:=E0) G_q11 (fun _ _ z=>z.elim) (hr.mono (by decide)) (by rfl) T.f_q11.m T.f_q11.k T.f_q11.d zP (z4 (zB (pv 2)) (z4 (zB (pv 3)) zA))))
   (zC (uw (i:=6) sc_law.nd rfl (by first | exact Or.inl rfl | exact Or.inr rfl) (xR zA))
   (zC (z03 PassesOwn.never rfl (yJ (by rfl) T.b_range (z8 (DE.w (zT hu (z7 (pv 2)) (DE.w zD) (fun _ _=>rfl))) zE)) (w8 (yh (i:=7) sc_law.nd rfl (by first | exact Or.inl rfl | exact Or.inr rfl)))
   (zI (z03 PassesOwn.never rfl (z4P (by rfl) T.b_range (z8 (DE.w (zm yc (z7 (pv 7)) (DE.w zD))) (z8 (DE.w (zT hu (z7 (pv 2)) (DE.w zD) (fun _ _=>rfl))) zE))) (w8 (yh (i:=8) sc_law.nd rfl (by first | exact Or.inl rfl | exact Or.inr rfl)))
   (zC (y4 (i:=9) sc_law.nd rfl (by first | exact Or.inl rfl | exact Or.inr rfl) (zM (yE rfl hr.units) (by rfl) T.b_sorted Bt.b_sorted (z8 (DE.w (DF.de (xR (z4 (z1v (wF PySem.F.plainAttrs_tuple PySem.F.slot_tuple_index PySem.F.type_tuple_index (wa hr.units) (zB (pv 3)) (zK (zB (pv 7)) pa_nil))) (z4 (z1v (wF PySem.F.plainAttrs_tuple PySem.F.slot_tuple_index PySem.F.type_tuple_index (wa hr.units) (zB (pv 3)) (zK (zB (pv 8)) pa_nil))) zA))))) zE)))
   (zI (z6O (wF PySem.F.plainAttrs_list PySem.F.slot_list_extend PySem.F.type_list_extend z1B (pv 6) (zK (DF.de (z6c (DE.w (DF.de (xR (z4 (yt (z4 (zB (pv 7)) (z4 (zB (pv 8)) zA))) zA)))) (DE.w (ze z7g (by rfl) T.b_int Bt.b_int (z8 (DE.w (y6 (we hr.units) (DE.w (yt (z4 (zT hu (z7 (pv 9)) (DE.w zD) (fun _ _=>rfl)) (z4 (zT hu (z7 (pv 9)) (DE.w zD) (fun _ _=>rfl)) zA)))) (DE.w (zT hu (z7 (pv 2)) (DE.w zD) (fun _ _=>rfl))) (by rfl))) zE))))) pa_nil))))))))
   (zC (y4 (i:=10) sc_law.nd rfl (by first | exact Or.inl rfl | exact Or.inr rfl) (ze y8 (by rfl) T.b_tuple Bt.b_tuple (z8 (DE.w (DF.de (zz (N:=["_law_script","_law_town","_law_web_here","_law_names_here","_law_places_here","_law_made","_law_due","_law_one","_law_other","_law_ends","_law_back","_law_some","_law_ask","_law_mine","_law_its"]) (sc:=(z5 (top 40))) (N':=["_law_script","_law_town","_law_web_here","_law_names_here","_law_places_here","_law_made","_law_due","_law_one","_law_other","_law_ends","_law_back","_law_some","_law_ask","_law_mine","_law_its","_law_place"]) rfl rfl rfl (by decide +kernel) zW (yJ (by rfl) T.b_range (z8 (DE.w (zT hu (z7 (pv 2)) (DE.w zD) (fun _ _=>rfl))) zE)) (fun _ _ _ _=>yM) (fun _ _ _ _=>(z1v (wF PySem.F.plainAttrs_tuple PySem.F.slot_tuple_index PySem.F.type_tuple_index (wa hr.units) (zB (pv 3)) (zK (zB (pv 15)) pa_nil))))))) zE)))
   (zC (xL (DPW.dt (ui (zj (yl hr.units) (z7 (pv 5)) (DE.w (yt (z4 (zT hu (z7 (pv 2)) (DE.w zD) (fun _ _=>rfl)) (z4 (ze y8 (by rfl) T.b_tuple Bt.b_tuple (z8 (z7 (pv 6)) zE)) zA)))) (zR _)) (w5 (zj (yl hr.units) (DE.w (zF (E:=E0) G_q11 (fun _ _ z=>z.elim) (hr.mono (by decide)) (by rfl) T.f_q11.m T.f_q11.k T.f_q11.d zP (z4 (zB (pv 5)) (z4 (zB (pv 10)) zA)))) (z7 (pv 2)) (zR _))))) (zI (zQ (DE.w z1I))) yB)
   (zC (y4 (i:=11) sc_law.nd rfl (by first | exact Or.inl rfl | exact Or.inr rfl) (ze y8 (by rfl) T.b_tuple Bt.b_tuple (z8 (DE.w (zM (yE rfl hr.units) (by rfl) T.b_sorted Bt.b_sorted (z8 (DE.w (DF.de (zz (N:=["_law_script","_law_town","_law_web_here","_law_names_here","_law_places_here","_law_made","_law_due","_law_one","_law_other","_law_ends","_law_back","_law_some","_law_ask","_law_mine","_law_its"]) (sc:=(z5 (top 40))) (N':=["_law_script","_law_town","_law_web_here","_law_names_here","_law_places_here","_law_made","_law_due","_law_one","_law_other","_law_ends","_law_back","_law_some","_law_ask","_law_mine","_law_its","_law_place"]) rfl rfl rfl (by decide +kernel) zW (yS (z7 (pv 4))) (fun _ _ _ _=>yM) (fun _ _ _ _=>(zT hu (z7 (pv 3)) (z7 (pv 15)) (fun _ _=>rfl)))))) zE))) zE)))
   (zC (z5v (as:=[t.f_q16.a,t.f_q18.a,t.f_q19.a]) PassesOwn.never rfl (zK (z0Q (v:=.ref t.f_q16.a) (by rfl) T.f_q16.m rfl) (zK (z0Q (v:=.ref t.f_q18.a) (by rfl) T.f_q18.m rfl) (zK (z0Q (v:=.ref t.f_q19.a) (by rfl) T.f_q19.m rfl) pa_nil))) (Nat.le_of_ble_eq_true rfl) (yh (i:=12) sc_law.nd rfl (by first | exact Or.inl rfl | exact Or.inr rfl))
   (List.forall_mem_cons.mpr ⟨(zC (z4h (i:=13) (j:=14) rfl sc_law.nd rfl rfl (by decide) rfl rfl (z4 (xH (E:=E0) G_q16 (fun _ _ z=>z.elim) (hr.mono (by decide)) (pv 12) T.f_q16.k T.f_q16.d zP (z4 (zB (pv 2)) (z4 (zB (pv 4)) zA))) (z4 (xH (E:=E0) G_q16 (fun _ _ z=>z.elim) (hr.mono (by decide)) (pv 12) T.f_q16.k T.f_q16.d zP (z4 (zB (pv 5)) (z4 (zB (pv 11)) zA))) zA)) rfl)
   (zI (xL (DPW.dt (ui (zj (yl hr.units) (DE.w (y6 wE (z7 (pv 13)) (DE.w yC) (zR _))) (DE.w (y6 wE (z7 (pv 14)) (DE.w yC) (zR _))) (zR _)) (w5 (DPW.dt (z23 (zj xk (z7 (pv 13)) (DE.w yC) (zR _)) (z0C (zj (yl hr.units) (DE.w (zT hu (z7 (pv 13)) (DE.w zD) (fun _ _=>rfl))) (DE.w (zT hu (z7 (pv 14)) (DE.w zD) (fun _ _=>rfl))) (zR _)))))))) (zI (zQ (DE.w z1I))) yB))),(List.forall_mem_cons.mpr ⟨(zC (z4h (i:=13) (j:=14) rfl sc_law.nd rfl rfl (by decide) rfl rfl (z4 (xH (E:=E0) G_q18 (fun _ _ z=>z.elim) (hr.mono (by decide)) (pv 12) T.f_q18.k T.f_q18.d zP (z4 (zB (pv 2)) (z4 (zB (pv 4)) zA))) (z4 (xH (E:=E0) G_q18 (fun _ _ z=>z.elim) (hr.mono (by decide)) (pv 12) T.f_q18.k T.f_q18.d zP (z4 (zB (pv 5)) (z4 (zB (pv 11)) zA))) zA)) rfl)
   (zI (xL (DPW.dt (ui (zj (yl hr.units) (DE.w (y6 wE (z7 (pv 13)) (DE.w yC) (zR _))) (DE.w (y6 wE (z7 (pv 14)) (DE.w yC) (zR _))) (zR _)) (w5 (DPW.dt (z23 (zj xk (z7 (pv 13)) (DE.w yC) (zR _)) (z0C (zj (yl hr.units) (DE.w (zT hu (z7 (pv 13)) (DE.w zD) (fun _ _=>rfl))) (DE.w (zT hu (z7 (pv 14)) (DE.w zD) (fun _ _=>rfl))) (zR _)))))))) (zI (zQ (DE.w z1I))) yB))),(List.forall_mem_cons.mpr ⟨(zC (z4h (i:=13) (j:=14) rfl sc_law.nd rfl rfl (by decide) rfl rfl (z4 (xH (E:=E0) G_q19 (fun _ _ z=>z.elim) (hr.mono (by decide)) (pv 12) T.f_q19.k T.f_q19.d zP (z4 (zB (pv 2)) (z4 (zB (pv 4)) zA))) (z4 (xH (E:=E0) G_q19 (fun _ _ z=>z.elim) (hr.mono (by decide)) (pv 12) T.f_q19.k T.f_q19.d zP (z4 (zB (pv 5)) (z4 (zB (pv 11)) zA))) zA)) rfl)
   (zI (xL (DPW.dt (ui (zj (yl hr.units) (DE.w (y6 wE (z7 (pv 13)) (DE.w yC) (zR _))) (DE.w (y6 wE (z7 (pv 14)) (DE.w yC) (zR _))) (zR _)) (w5 (DPW.dt (z23 (zj xk (z7 (pv 13)) (DE.w yC) (zR _)) (z0C (zj (yl hr.units) (DE.w (zT hu (z7 (pv 13)) (DE.w zD) (fun _ _=>rfl))) (DE.w (zT hu (z7 (pv 14)) (DE.w zD) (fun _ _=>rfl))) (zR _)))))))) (zI (zQ (DE.w z1I))) yB))),(fun _ z=>(nomatch z))⟩)⟩)⟩))
   (zC (xL (zj (yl hr.units) (DE.w (y6 wE (DE.w (zF (E:=E0) G_bar (fun _ _ z=>z.elim) (hr.mono (by decide)) (by rfl) T.f_bar.m T.f_bar.k T.f_bar.d zP (z4 (zB (pv 2)) (z4 (zB (pv 4)) zA)))) (DE.w yC) (zR _))) (DE.w (y6 wE (DE.w (zF (E:=E0) G_bar (fun _ _ z=>z.elim) (hr.mono (by decide)) (by rfl) T.f_bar.m T.f_bar.k T.f_bar.d zP (z4 (zB (pv 5)) (z4 (zB (pv 11)) zA)))) (DE.w yC) (zR _))) (zR _)) (zI (zQ (DE.w z1I))) yB)
   (zI (zQ (DE.w (y6 (ul hr.units) (DE.w (zF (E:=E0) G_q20 (fun _ _ z=>z.elim) (hr.mono (by decide)) (by rfl) T.f_q20.m T.f_q20.k T.f_q20.d zP (z4 (zB (pv 5)) zA))) (DE.w (zM (yE rfl hr.units) (by rfl) T.b_sorted Bt.b_sorted (z8 (DE.w (DF.de (zz (N:=["_law_script","_law_town","_law_web_here","_law_names_here","_law_places_here","_law_made","_law_due","_law_one","_law_other","_law_ends","_law_back","_law_some","_law_ask","_law_mine","_law_its"]) (sc:=(z5 (top 40))) (N':=["_law_script","_law_town","_law_web_here","_law_names_here","_law_places_here","_law_made","_law_due","_law_one","_law_other","_law_ends","_law_back","_law_some","_law_ask","_law_mine","_law_its","_law_place"]) rfl rfl rfl (by decide +kernel) zW (yS (DE.w (zF (E:=E0) G_q20 (fun _ _ z=>z.elim) (hr.mono (by decide)) (by rfl) T.f_q20.m T.f_q20.k T.f_q20.d zP (z4 (zB (pv 2)) zA)))) (fun _ _ _ _=>yM) (fun _ _ _ _=>(zT hu (z7 (pv 3)) (z7 (pv 15)) (fun _ _=>rfl)))))) zE))) (zR _))))))))))))))))
end
end Gw
namespace Gw
open PySem L2
theorem z6l{ns:List Int}{k:Int}{n:Nat}{P:D->Nat->Prop}(hk:0<=k)(h:∀c:Int,P (.p (.int c)) n):Ok (z2k [.scr ns,.p (.int k)]) n P:=by
 unfold z2k;simp only[if_pos hk,ok_pure];exact h _
theorem z58{ns:List Int}{k m:Int}{n:Nat}{P:D->Nat->Prop}(hk:0<=k)(hk2:k<2 ^ 64)(hm:0<m)(h:∀r:Int,0<=r->r<m->P (.p (.int r)) n):Ok (z4j [.scr ns,.p (.int k),.p (.int m)]) n P:=by
 unfold z4j z5a;refine t_fn rfl ?_;walk_at "e";refine z6l hk fun c=>?_;walk_at "e";rw[z7R (by decide)];walk_at "e";rw[z6N (by decide)];walk_at "e";rw[xo (by decide)];walk_at "e";generalize hq:(c*1103515245+7919*k+12345) % 2147483647=q;have q0:0<=q/\q<2147483647:=by omega
 rw[z61 ⟨by decide,by decide,by omega⟩];walk_at "e";rw[xo (by decide)];walk_at "e";rw[xo (by decide)];walk_at "e";rw[xo hm];walk_at "e";exact h _ (Int.emod_nonneg _ (by omega)) (Int.emod_lt_of_pos _ hm)
theorem xY{ns:List Int}{m:Int}{n:Nat}{P:D->Nat->Prop}(hn:n<100000)(hm:0<m)(h:∀r:Int,0<=r->r<m->P (.p (.int r)) (n+1)):Ok (xt [.scr ns,.town,.p (.int m)]) n P:=by
 unfold xt z5e;refine t_fn rfl ?_;walk_at "e";refine z70 rfl (by unfold lim;omega) ?_;walk_at "e";refine z6r rfl ?_;walk_at "e";exact z58 (by omega) (by omega) hm h
def Lx(a b:Int×Int):Prop:=a.1<b.1\/(a.1=b.1/\a.2<b.2)
structure WebOk(m:Int)(ps:List (Int×Int)):Prop where
 lo:1<=m
 hi:m<=8
 inr:∀q∈ps,0<=q.1/\q.1<q.2/\q.2<m
 srt:ps.Pairwise Lx
 len:ps.length<=64
theorem z86{ns:List Int}{n:Nat}{P:D->Nat->Prop}(hn:n<1000)(h:∀m ps n',WebOk m ps->n'<n+100->P (.p (webD m ps)) n'):Ok (z3K [.scr ns,.town,.p (.int 1),.p (.int 8)]) n P:=by
 unfold z3K z5B;refine yp rfl ?_;walk_at "ev";refine xY (by omega) (by decide) fun share s0 s1=>?_;walk_at "ev";refine xY (by omega) (by decide) fun many m0 m1=>?_;walk_at "ev";unfold sFor;walk_at "ev";rw[zb (by omega)];walk_at "ev";refine ue (fun k ρ n'=>∃(ps:List (Int×Int)) (x7:Option Sl),ρ=[some (Sl.val (D.scr ns)),some (Sl.val D.town),some (Sl.val (D.p (PyData.int 1))),some (Sl.val (D.p (PyData.int 8))),some (Sl.val (D.p (PyData.int (2+share)))),some (Sl.val (D.p (PyData.int (1+many)))),some (Sl.own (.list (ps.map zG))),x7]/\n'<=n+2+8*k/\(∀q∈ps,0<=q.1/\q.1<q.2/\q.2<1+many/\q.1<(k:Int))/\ps.Pairwise Lx/\ps.length<=8*k) (fun k ρ n' hk hI=>?_) (fun ρ n' hI=>?_) ⟨[],none,rfl,by omega,by simp,.nil,by simp⟩
 ·obtain⟨ps,x7,rfl,hn',hin,hs,hlen⟩:=hI;rw[yd]at hk;rw[wN];refine⟨_,rfl,z6M (l:=ps.map zG) rfl ?_⟩;walk_at "ev";unfold mComp;walk_at "ev";rw[z2F ⟨by omega,by omega,by unfold lim;omega⟩];walk_at "ev";refine xy (I:=fun j acc n2=>n2<=n'+j/\∃qs:List (Int×Int),acc=qs.map zG/\(∀q∈qs,q.1=k/\(k:Int)<q.2/\q.2<k+1+j)/\qs.Pairwise Lx/\qs.length<=j) (fun j acc n2 hj hI=>?_) (fun acc n2 hI=>?_) ⟨by omega,[],rfl,by simp,.nil,by simp⟩
  ·obtain⟨hn2,qs,rfl,hq,hs2,hl2⟩:=hI;rw[yd]at hj;rw[wN];walk_at "ev";refine xY (by omega) (by decide) fun r r0 r1=>?_;walk_at "ev";refine⟨fun _=>⟨_,rfl,by omega,qs++[((k:Int),(k:Int)+1+j)],?_,?_,?_,by simp;omega⟩,fun _=>⟨by omega,qs,rfl,fun q hq'=>?_,hs2,by omega⟩⟩
   ·simp[zG]
   ·intro q hq';rcases List.mem_append.mp hq' with hq' | hq'
    ·have:=hq q hq';omega
    ·rw[List.mem_singleton.mp hq'];simp;omega
   ·rw[List.pairwise_append];refine⟨hs2,by simp,fun a ha b hb=>?_⟩;rw[List.mem_singleton.mp hb]
    have:=hq a ha;exact .inr ⟨by simp;omega,by simp;omega⟩
   ·have:=hq q hq';omega
  ·obtain⟨hn2,qs,rfl,hq,hs2,hl2⟩:=hI;rw[yd]at hn2 hq hl2;refine⟨_,rfl,by simp;omega,ps++qs,some (Sl.val (.p (.int (0+k)))),?_,by omega,?_,?_,by simp;omega⟩
   ·rw[List.map_append]
   ·intro q hq';rcases List.mem_append.mp hq' with hq' | hq'
    ·have:=hin q hq';omega
    ·have:=hq q hq';omega
   ·rw[List.pairwise_append];refine⟨hs,hs2,fun a ha b hb=>.inl ?_⟩;have h1:=hin a ha;have h2:=hq b hb;omega
 ·obtain⟨ps,x7,rfl,hn',hin,hs,hlen⟩:=hI;rw[yd]at hn' hlen;walk_at "ev";refine h (1+many) ps n' ⟨by omega,by omega,fun q hq=>?_,hs,by omega⟩ (by omega)
  have:=hin q hq;omega
theorem u7{x a b:Int}{n:Nat}{P:D->Nat->Prop}(h:P (.p (.bool (decide (a<=x) && decide (x<=b)))) n):Ok (F_q0 [.p (.int x),.p (.int a),.p (.int b)]) n P:=by
 unfold F_q0 b_q0;refine yp rfl ?_;walk_at "ev";by_cases c:a<=x
 ·simp only[c,decide_true,if_true,Bool.true_and]at h |-
  try walk_at "ev"
  exact h
 ·simp only[c,decide_false,Bool.false_and,if_false,Bool.false_eq_true]at h |-
  try walk_at "ev"
  exact h
theorem xm{l:List Int}{a b:Int}{n:Nat}{P:D->Nat->Prop}(hl:l.length<10000)(hr:∀x∈l,a<=x/\x<=b)(h:P (.p (.bool true)) n):Ok (F_q1 [.p (.tuple (l.map PyData.int)),.p (.int a),.p (.int b)]) n P:=by
 unfold F_q1 b_q1;refine yp rfl ?_;walk_at "ev";unfold mComp;walk_at "ev";rw[z1o (by simpa using hl)];walk_at "ev";refine yg (f:=fun _=>.bool true) (fun d hd=>?_) ?_
 ·obtain⟨x,hx,rfl⟩:=List.mem_map.mp hd;walk_at "ev";refine u7 ⟨?_,rfl⟩
  have:=hr x hx;simp[this]
 ·try walk_at "ev"
  simp only[zn,List.map_map];rw[show((fun _=>PyData.bool true)∘PyData.int)=fun(x:Int)=>PyData.bool ((fun _=>true) x) from rfl,zg];walk_at "ev";rw[show((l.map fun _=>true).all id)=true by simp];exact h
theorem u9{l:List PyData}{j:List PyData->PyData}{n:Nat}{P:D->Nat->Prop}(hl:l.length<10000)(hr:∀(i:Nat) x y,l[i]?=some x->l[i+1]?=some y->fLt x y=some (.bool true))(h:P (.p (.bool true)) n):Ok (F_q2 [.p (.tuple l)]) n P:=by
 unfold F_q2 b_q2;refine yp rfl ?_;walk_at "ev";unfold mComp;walk_at "ev";rw[zb (by omega)];walk_at "ev";refine yg (f:=fun _=>.bool true) (fun d hd=>?_) ?_
 ·obtain⟨k,hk,rfl⟩:=List.mem_iff_getElem.mp hd;rw[yd]at hk;rw[wN];walk_at "ev";have e1:fIx (.tuple l) (.int (0+(k:Int)))=some (l[k]'(by omega)):=z0o (by omega) (by rw[show(0+(k:Int)).toNat=k by omega];exact List.getElem?_eq_getElem (by omega));have e2:fIx (.tuple l) (.int (0+(k:Int)+1))=some (l[k+1]'(by omega)):=z0o (by omega) (by rw[show(0+(k:Int)+1).toNat=k+1 by omega];exact List.getElem?_eq_getElem (by omega));rw[e1,e2];walk_at "ev";rw[hr k _ _ (List.getElem?_eq_getElem (by omega)) (List.getElem?_eq_getElem (by omega))];walk_at "ev";exact⟨trivial,trivial⟩
 ·try walk_at "ev"
  simp only[zn];rw[show(rngD 0 ((l.length:Int) - 1)).map (fun _=>PyData.bool true)=(rngD 0 ((l.length:Int) - 1)).map (fun x=>PyData.bool ((fun _=>true) x)) from rfl,zg];walk_at "ev";rw[show(((rngD 0 ((l.length:Int) - 1)).map fun _=>true).all id)=true by simp];exact h
structure PlOk(m:Int)(pl:List Int):Prop where
 ne:pl≠[]
 inr:∀p∈pl,0<=p/\p<m
 srt:pl.Pairwise (·<·)
 len:pl.length<=8
noncomputable abbrev plD(pl:List Int):PyData:=.tuple (pl.map PyData.int)
theorem wD{m:Int}{pl:List Int}{n:Nat}{P:D->Nat->Prop}(hne:pl≠[])(hin:∀p∈pl,0<=p/\p<m)(hs:pl.Pairwise (·<·))(hl:pl.length<100)(h:P (.p (.bool true)) n):Ok (F_q3 [.p (plD pl),.p (.int m)]) n P:=by
 unfold F_q3 b_q3;refine yp rfl ?_;walk_at "ev";refine xm (by omega) (fun x hx=>by have:=hin x hx;omega) ?_;walk_at "ev";have h0:0<pl.length:=List.length_pos_iff.mpr hne;rw[show decide ((1:Int)<=((pl.map PyData.int).length:Int))=true by simp;omega];walk_at "ev";refine u9 (j:=PyData.tuple) (by simp;omega) (fun i x y e1 e2=>?_) h;rw[List.getElem?_map]at e1 e2;obtain⟨a,ea,rfl⟩:=Option.map_eq_some_iff.mp e1;obtain⟨b,eb,rfl⟩:=Option.map_eq_some_iff.mp e2;rw[fLt_int,decide_eq_true (z4T hs ea eb)]
theorem w4(a b c d:Int):HT.lexLt [a,b] [c,d]=true↔a<c\/(a=c/\b<d):=by
 simp[HT.lexLt];by_cases e:a=c
 ·simp[e];omega
 ·simp[e]
theorem z59{m:Int}{q:Int×Int}{n:Nat}{P:D->Nat->Prop}(hq:0<=q.1/\q.1<q.2/\q.2<m)(h:P (.p (.bool true)) n):Ok (F_q4 [.p (zG q),.p (.int m)]) n P:=by
 unfold F_q4 b_q4;refine yp rfl ?_;walk_at "ev";show Ok (F_q3 [.p (plD [q.1,q.2]),.p (.int m)]) n _;refine wD (by simp) (fun p hp=>?_) ?_ (by simp) ?_
 ·simp at hp;omega
 ·simp;omega
 ·unfold zG;walk_at "ev";exact h
theorem z6U{m:Int}{ts:List PyData}{n:Nat}{P:D->Nat->Prop}(h1:1<=m)(h2:m<=8)(h:P (.p (.bool true)) n):Ok (F_q6 [.p (.tuple [.int m,.tuple ts])]) n P:=by
 unfold F_q6 b_q6;refine yp rfl ?_;walk_at "ev";simp;walk_at "ev";refine u7 ?_;rw[show(decide ((1:Int)<=m) && decide (m<=z71))=true by unfold z71;simp;omega];walk_at "ev";exact h
theorem zw(m:Int)(ps:List (Int×Int)):webD m ps=.tuple [.int m,.tuple (ps.map zG)]:=rfl
theorem z5X{m:Int}{ps:List (Int×Int)}{n:Nat}{P:D->Nat->Prop}(W:WebOk m ps)(h:P (.p (.bool true)) n):Ok (F_q7 [.p (webD m ps)]) n P:=by
 have hlen:=W.len;unfold F_q7 b_q7;refine yp rfl ?_;rw[zw];walk_at "ev";refine z6U W.lo W.hi ?_;walk_at "ev";unfold mComp;walk_at "ev";rw[z1o (by simp;omega)];walk_at "ev";refine yg (f:=fun _=>.bool true) (fun d hd=>?_) ?_
 ·obtain⟨q,hq,rfl⟩:=List.mem_map.mp hd;walk_at "ev";exact z59 (W.inr q hq) ⟨rfl,rfl⟩
 ·try walk_at "ev"
  simp only[zn,List.map_map];rw[show((fun _=>PyData.bool true)∘zG)=fun(x:Int×Int)=>PyData.bool ((fun _=>true) x) from rfl,zg];walk_at "ev";rw[show((ps.map fun _=>true).all id)=true by simp];walk_at "ev";refine u9 (j:=PyData.tuple) (by simp;omega) (fun i x y e1 e2=>?_) h;rw[List.getElem?_map]at e1 e2;obtain⟨a,ea,rfl⟩:=Option.map_eq_some_iff.mp e1;obtain⟨b,eb,rfl⟩:=Option.map_eq_some_iff.mp e2
  have:=z4T W.srt ea eb;show fLt (.tuple ([a.1,a.2].map PyData.int)) (.tuple ([b.1,b.2].map PyData.int))=_;simp only[fLt,yY];rw[(w4 _ _ _ _).mpr this]
theorem xq{m:Int}{ps:List (Int×Int)}{n:Nat}{P:D->Nat->Prop}(W:WebOk m ps)(h:P (.p .none) n):Ok (F_q8 [.p (webD m ps)]) n P:=by
 unfold F_q8 b_q8;refine yp rfl ?_;walk_at "ev";refine z5X W ?_;walk_at "ev";exact h
theorem z0b{m:Int}{pl:List Int}{n:Nat}{P:D->Nat->Prop}(L:PlOk m pl)(h:P (.p .none) n):Ok (F_q9 [.p (plD pl),.p (.int m)]) n P:=by
 have:=L.len;unfold F_q9 b_q9;refine yp rfl ?_;walk_at "ev";refine wD L.ne L.inr L.srt (by omega) ?_;walk_at "ev";exact h
theorem xU{m:Int}{ps:List (Int×Int)}{pl:List Int}{n:Nat}{P:D->Nat->Prop}(W:WebOk m ps)(L:PlOk m pl)(h:P (.p .none) n):Ok (z0P [.p (webD m ps),.p (plD pl)]) n P:=by
 unfold z0P z5g;refine yp rfl ?_;walk_at "ev";refine xq W ?_;rw[zw]
 try walk_at "ev"
 refine z0b L ?_;exact h
def Edg(ps:List (Int×Int))(p q:Int):Prop:=(p,q)∈ps\/(q,p)∈ps
theorem wq(L:List (List Int))(q:Int×Int):(zu L q).length=L.length:=by simp[zu]
theorem yU(n:Nat)(ps:List (Int×Int)):(zH n ps).length=n:=by
 unfold zH
 have:∀(ps:List (Int×Int)) (L:List (List Int)),(ps.foldl zu L).length=L.length:=by
  intro ps
  induction ps with
  | nil=>intro L;rfl
  | cons q r ih=>intro L;rw[List.foldl_cons,ih,wq]
 rw[this];simp
theorem z1i{L:List (List Int)}{q:Int×Int}{i:Nat}{x:Int}(h1:0<=q.1/\q.1.toNat<L.length)(h2:0<=q.2/\q.2.toNat<L.length)(hne:q.1≠q.2):x∈(zu L q).getD i []↔x∈L.getD i []\/(i=q.1.toNat/\x=q.2)\/(i=q.2.toNat/\x=q.1):=by
 have hne':q.1.toNat≠q.2.toNat:=by omega
 unfold zu;simp only[List.getD_eq_getElem?_getD,List.getElem?_set,List.length_set];by_cases e2:q.2.toNat=i
 ·subst e2;simp[h2.2,hne',Ne.symm hne']
 ·by_cases e1:q.1.toNat=i
  ·subst e1;simp[h1.2,e2,hne']
  ·simp[e1,e2,Ne.symm e1,Ne.symm e2]
theorem yr{n:Nat}{ps:List (Int×Int)}(hp:∀q∈ps,0<=q.1/\q.1<q.2/\q.2<(n:Int)){i:Nat}{x:Int}(hi:i<n):x∈(zH n ps).getD i []↔Edg ps i x:=by
 have gen:∀(ps:List (Int×Int)) (L:List (List Int)),L.length=n->(∀q∈ps,0<=q.1/\q.1<q.2/\q.2<(n:Int))->(x∈(ps.foldl zu L).getD i []↔x∈L.getD i []\/Edg ps i x):=by
  intro ps
  induction ps with
  | nil=>intro L _ _;simp[Edg]
  | cons q r ih=>
   intro L hL hq;have hq0:=hq q List.mem_cons_self;rw[List.foldl_cons,ih _ (by rw[wq];exact hL) fun z hz=>hq z (List.mem_cons_of_mem _ hz),z1i (by omega) (by omega) (by omega)];unfold Edg;simp only[List.mem_cons];constructor
   ·rintro((h | ⟨h1,h2⟩ | ⟨h1,h2⟩) | h | h)
    ·exact .inl h
    ·refine .inr (.inl (.inl ?_));obtain⟨q1,q2⟩:=q;simp at h1 h2 hq0 |-;omega
    ·refine .inr (.inr (.inl ?_));obtain⟨q1,q2⟩:=q;simp at h1 h2 hq0 |-;omega
    ·exact .inr (.inl (.inr h))
    ·exact .inr (.inr (.inr h))
   ·rintro(h | (h | h) | (h | h))
    ·exact .inl (.inl h)
    ·refine .inl (.inr (.inl ?_));rw[<-h];simp
    ·exact .inr (.inl h)
    ·refine .inl (.inr (.inr ?_));rw[<-h];simp
    ·exact .inr (.inr h)
 unfold zH;rw[gen ps _ (by simp) hp];simp[List.getD_eq_getElem?_getD,List.getElem?_replicate,hi]
theorem z1x{m:Int}{ps:List (Int×Int)}{n:Nat}{P:D->Nat->Prop}(W:WebOk m ps)(h:P (.p (yK (zH m.toNat ps))) n):Ok (uV [.p (webD m ps)]) n P:=by
 have hw:web? (webD m ps)=some (m,ps):=by
  have gen:∀ps:List (Int×Int),pairs? (ps.map zG)=some ps:=by
   intro ps
   induction ps with
   | nil=>rfl
   | cons q r ih=>simp only[List.map_cons,pairs?,ih];rfl
  simp only[webD,web?,gen,Option.map_some]
 unfold uV;have hl:=W.lo;have hh:=W.hi;have hn:=W.len;refine uZ (a:=.p (yK (zH m.toNat ps))) ?_ h;rw[hw,Option.bind_some];unfold z5K;rw[if_pos ⟨by omega,by omega,by show ps.length<=400;omega,List.all_eq_true.mpr fun q hq=>by have:=W.inr q hq;simp;omega⟩];rfl
noncomputable def dJ(l:List (Int×PyData)):List (PyData×PyData):=l.map fun q=>(.int q.1,q.2)
noncomputable def lk{α:Type}(l:List (Int×α))(x:Int):Option α:=(l.find? fun q=>decide (q.1=x)).map (·.2)
theorem xv(l:List (Int×PyData))(x:Int):yj (dJ l) (.int x)=lk l x:=by
 unfold yj dJ lk;rw[List.find?_map]
 have:((fun kv:PyData×PyData=>PyData.eqv kv.1 (.int x))∘fun q:Int×PyData=>(PyData.int q.1,q.2))=fun q=>decide (q.1=x):=by
  funext q;exact yV _ _
 rw[this,Option.map_map];rfl
theorem z48{l:List (Int×PyData)}(h:l≠[])(x:Int):xZ (dJ l) (.int x)=true:=by
 cases l with
 | nil=>exact absurd rfl h
 | cons q r=>simp[xZ,dJ,keyD,xK]
theorem z2e{l:List (Int×PyData)}{x:Int}{v:PyData}(hx:∀q∈l,q.1≠x)(hl:l.length<10000):putD (dJ l) (.int x) v=some (dJ (l++[(x,v)])):=by
 unfold putD;have h1:zv (dJ l) (.int x)=true:=by simp[zv,dJ,keyD,xK]
 have h2:(dJ l).length<lim:=by unfold lim dJ;simp;omega
 rw[if_pos ⟨h1,h2⟩];unfold dPut;have h3:(dJ l).any (fun kv=>PyData.eqv kv.1 (.int x))=false:=by
  rw[List.any_eq_false];intro kv hkv;obtain⟨q,hq,rfl⟩:=List.mem_map.mp hkv;rw[show PyData.eqv (PyData.int q.1,q.2).1 (.int x)=decide (q.1=x) from yV _ _];simp[hx q hq]
 rw[if_neg (by rw[h3];exact Bool.false_ne_true)];simp[dJ]
theorem z4i{l:List (Int×PyData)}(h:l≠[])(neg:Bool)(x:Int):fIn neg (.int x) (.dict (dJ l))=some (.bool (if neg then !(lk l x).isSome else(lk l x).isSome)):=by
 simp only[fIn];rw[if_pos (z48 h x),xv]
theorem z2v{l:List (Int×PyData)}(h:l≠[])(x:Int):fIx (.dict (dJ l)) (.int x)=lk l x:=by
 simp only[fIx];rw[if_pos (z48 h x),xv]
theorem z1s{α:Type}{l:List (Int×α)}{x:Int}{v:α}(h:lk l x=some v):(x,v)∈l:=by
 obtain⟨q,e1,e2⟩:=Option.map_eq_some_iff.mp h;have h1:=List.find?_some e1;have h2:=List.mem_of_find?_eq_some e1;simp at h1;rw[<-e2,<-h1];exact h2
theorem z49{α:Type}{l:List (Int×α)}{x:Int}(h:lk l x=none):∀q∈l,q.1≠x:=fun q hq e=>by
 have:=Option.map_eq_none_iff.mp h;rw[List.find?_eq_none]at this
 have:=this q hq;simp[e]at this
theorem z7v{α:Type}{l:List (Int×α)}(nd:(l.map (·.1)).Nodup){x:Int}{v:α}(h:(x,v)∈l):lk l x=some v:=by
 induction l with
 | nil=>exact nomatch h
 | cons q r ih=>
  rw[List.map_cons,List.nodup_cons]at nd;unfold lk;rw[List.find?_cons];by_cases e:q.1=x
  ·simp only[e,decide_true];rcases List.mem_cons.mp h with h | h
   ·rw[<-h];rfl
   ·exact absurd (List.mem_map.mpr ⟨_,h,e.symm⟩) nd.1
  ·simp only[e,decide_false];rcases List.mem_cons.mp h with h | h
   ·rw[<-h]at e;exact absurd rfl e
   ·exact ih nd.2 h
theorem z5Y{i j:Nat}{ρ:Env'}{n:Nat}{P:Out->Nat->Prop}{x:PyData}{r:List PyData}(hl:ownL ρ j=some (x::r))(hij:i≠j)(h:P (.nx ((ρ.set j (some (Sl.own (.list r)))).set i (some (Sl.val (.p x))))) n):Ok (z2O i j (mC (.int 0)) ρ) n P:=by
 unfold z2O mC;simp only[hl,ok_bind,ok_some,ok_pure,onP_p,Option.bind_some];rw[if_pos ⟨by decide,by decide,hij⟩]
 have:seqIndex? 0 (x::r).length=some 0:=by simp[seqIndex?]
 rw[this,Option.bind_some];simp only[List.getElem?_cons_zero,Option.map_some,ok_some,List.eraseIdx_cons_zero];exact h
theorem z55{i:Nat}{mk mv:Env'->Mx D}{ρ:Env'}{n:Nat}{P:Out->Nat->Prop}{l:List (Int×PyData)}(hl:ownD ρ i=some (dJ l))(hn:l.length<10000)(h:Ok (mv ρ) n fun d n1=>Ok (mk ρ) n1 fun k n2=>∃x v,d=.p v/\k=.p (.int x)/\(∀q∈l,q.1≠x)/\P (.nx (ρ.set i (some (Sl.own (.dict (dJ (l++[(x,v)]))))))) n2):Ok (z2Z i mk mv ρ) n P:=by
 unfold z2Z;simp only[hl,ok_bind,ok_some];refine h.imp fun d n1 h1=>h1.imp fun k n2 h2=>?_;obtain⟨x,v,rfl,rfl,h3,h4⟩:=h2;simp only[onP2_pp,z2e h3 hn,Option.map_some,ok_some];exact h4
noncomputable def fJ(f:List (Int×Int)):List (Int×PyData):=f.map fun q=>(q.1,.int q.2)
theorem z0I(f:List (Int×Int))(x:Int):lk (fJ f) x=(lk f x).map PyData.int:=by
 unfold lk fJ;rw[List.find?_map,Option.map_map,Option.map_map];rfl
theorem z3i{f:List (Int×Int)}(h:f≠[]):fJ f≠[]:=by simpa[fJ]using h
noncomputable abbrev farD(f:List (Int×Int)):PyData:=.dict (dJ (fJ f))
open MWeb in
theorem z1D{N:Nat}{T:List (List Int)}{E:Int->Int->Prop}{st:Int}{n:Nat}{P:D->Nat->Prop}(hN:N<=8)(hT:T.length=N)(hTl:∀l∈T,l.length<1000)(hE:∀(i:Nat) (x:Int),i<N->(x∈T.getD i []↔E i x))(hr:∀p q,E p q->0<=q/\q<(N:Int))(h0:0<=st/\st<(N:Int))
  (h:∀f,Found E N st f->f≠[]->P (.p (farD f)) n):Ok (z1r [.p (yK T),.p (.int st)]) n P:=by
 unfold z1r z5V;refine yp rfl ?_;walk_at "ev";unfold mD1;walk_at "ev";rw[if_pos (by simp[zv,keyD])];walk_at "ev";unfold uo;refine z2g (fun μ ρ n'=>n'=n/\∃f w x4 x5,ρ=[some (Sl.val (.p (yK T))),some (Sl.val (.p (.int st))),some (Sl.own (farD f)),some (Sl.own (.list (w.map PyData.int))),x4,x5]/\Bfs E N st f w/\f≠[]/\w.length<=f.length/\μ=(N - f.length)+w.length) (fun μ ρ n' hI=>?_) (μ:=(N - 1)+1) (by omega) ⟨rfl,[(st,0)],[st],none,none,rfl,Bfs.first h0.1 h0.2,by simp,by simp,by simp⟩;obtain⟨rfl,f,w,x4,x5,rfl,B,hf,hwl,rfl⟩:=hI;have hfl:=B.len;walk_at "ev";cases w with
 | nil=>
  simp only[List.map_nil];refine⟨fun z=>by simp at z,fun _=>?_⟩
  try walk_at "ev"
  exact h f B.found hf
 | cons p w=>
  simp only[List.map_cons];refine⟨fun _=>⟨(N - f.length)+w.length,by simp;omega,?_⟩,fun z=>by simp at z⟩
  try walk_at "ev"
  refine z5Y rfl (by decide) ?_;obtain⟨dp,hp,B1⟩:=B.take;have hpr:=B.inr p dp hp;have hwl':w.length+1<=f.length:=by simpa using hwl
  unfold sFor;walk_at "ev";have hlt:p.toNat<T.length:=by omega
  have e1:fIx (yK T) (.int p)=some (.list ((T.getD p.toNat []).map PyData.int)):=by
   refine z0o (by omega) ?_;rw[List.getElem?_map,List.getElem?_eq_getElem hlt,List.getD_eq_getElem?_getD,List.getElem?_eq_getElem hlt];rfl
  rw[e1];walk_at "ev";have hll:(T.getD p.toNat []).length<1000:=by
   rw[List.getD_eq_getElem?_getD,List.getElem?_eq_getElem hlt];exact hTl _ (List.getElem_mem hlt)
  have hEp:∀x,x∈T.getD p.toNat []↔E p x:=fun x=>by
   have:=hE p.toNat x (by omega)
   rwa [Int.toNat_of_nonneg hpr.1]at this
  generalize T.getD p.toNat []=l at hll hEp;rw[z18 (by simp;omega)];walk_at "ev";refine ue (fun k ρ n2=>n2=n'/\∃f2 w2 x5,ρ=[some (Sl.val (.p (yK T))),some (Sl.val (.p (.int st))),some (Sl.own (farD f2)),some (Sl.own (.list (w2.map PyData.int))),some (Sl.val (.p (.int p))),x5]/\Bft E N st f2 w2 p dp (l.take k)/\f2≠[]/\w2.length+f.length=w.length+f2.length) (fun k ρ n2 hk hI=>?_) (fun ρ n2 hI=>?_) ⟨rfl,f,w,x5,rfl,by simpa using B1,hf,rfl⟩
  ·obtain⟨rfl,f2,w2,x5',rfl,B2,hf2,hw2⟩:=hI;have hk':k<l.length:=by simpa using hk
   have hq:l[k]∈l:=List.getElem_mem hk';have hEq:=(hEp _).mp hq;have hqr:=hr _ _ hEq;have tk:l.take (k+1)=l.take k++[l[k]]:=by rw[List.take_succ,List.getElem?_eq_getElem hk'];rfl
   rw[List.getElem_map];refine⟨_,rfl,?_⟩;have hf2l:=B2.len;walk_at "ev";rw[z4i (z3i hf2),z0I];walk_at "ev";cases e2:lk f2 l[k]with
   | some d=>
    simp only[Option.map_some,Option.isSome_some,Bool.not_true,if_true];walk_at "ev";refine⟨by trivial,f2,w2,_,rfl,?_,hf2,hw2⟩;rw[tk];exact B2.old (z1s e2)
   | none=>
    simp only[Option.map_none,Option.isSome_none,Bool.not_false,if_true];walk_at "ev";have hnew:=z49 e2;refine z55 (l:=fJ f2) rfl (by simp[fJ];omega) ?_;walk_at "ev";rw[z2v (z3i hf2),z0I,z7v B2.nd B2.pl];walk_at "ev";refine⟨l[k],.int (dp+1),rfl,rfl,fun q hq'=>?_,?_⟩
    ·obtain⟨z,hz,rfl⟩:=List.mem_map.mp hq';exact hnew z hz
    ·try walk_at "ev"
     refine z7q (l:=w2.map PyData.int) rfl ?_;walk_at "ev";refine⟨.int l[k],rfl,by have:=B2.len;simp;omega,by trivial,f2++[(l[k],dp+1)],w2++[l[k]],some (Sl.val (.p (.int l[k]))),?_,?_,by simp,by simp;omega⟩
     ·simp[fJ,dJ]
     ·rw[tk];exact B2.new (fun d hd=>hnew _ hd rfl) hqr.1 hqr.2 hEq
  ·obtain⟨rfl,f2,w2,x5',rfl,B2,hf2,hw2⟩:=hI;have hf2l:=B2.len;rw[List.length_map,List.take_length]at B2;refine⟨(N - f2.length)+w2.length,by omega,rfl,f2,w2,_,_,rfl,B2.ends fun q hq=>(hEp q).mpr hq,hf2,by simp at hwl;omega,rfl⟩
open PySem L2 MWeb
theorem z0D(N:Nat):(upto N).Nodup:=by
 unfold upto;exact List.pairwise_map.mpr (List.nodup_range.imp fun h=>by omega)
theorem wL(m:Int)(ps:List (Int×Int)):fIx (webD m ps) (.int 0)=some (.int m):=fIx_t0 _ _
noncomputable def common(N:Nat)(fs:List (List (Int×Int))):List Int:=(upto N).filter fun g=>fs.all fun f=>(lk f g).isSome
noncomputable def zq(fs:List (List (Int×Int)))(g:Int):List Int:=fs.map fun f=>(lk f g).getD 0
noncomputable def yx(N:Nat)(fs:List (List (Int×Int))):List (Int×PyData):=(common N fs).map fun g=>(g,.list ((zq fs g).map PyData.int))
theorem yR{α β:Type}(c:α->Bool)(j:α->β):∀l:List α,l.filterMap (fun x=>if c x then some (j x)else none)=(l.filter c).map j
 | []=>rfl
 | x::l=>by
  rw[List.filterMap_cons,List.filter_cons];by_cases h:c x=true
  ·simp[h,yR c j l]
  ·simp[h,yR c j l]
theorem z2Y:∀(l acc:List (Int×PyData)),((acc++l).map (·.1)).Nodup->(acc++l).length<10000->wA (l.map fun q=>.tuple [.int q.1,q.2]) (dJ acc)=some (dJ (acc++l))
 | [],acc,_,_=>by simp[wA]
 | q::r,acc,nd,hl=>by
  have hq:∀z∈acc,z.1≠q.1:=fun z hz e=>by
   rw[List.map_append,List.nodup_append]at nd;exact nd.2.2 z.1 (List.mem_map.mpr ⟨z,hz,rfl⟩) q.1 (by simp) e
  rw[List.map_cons];unfold wA;rw[z2e hq (by simp at hl;omega),Option.bind_some,show acc++q::r=(acc++[(q.1,q.2)])++r by simp];exact z2Y r _ (by simpa using nd) (by simpa using hl)
theorem xi:∀(ps:List (Int×Int)) (L:List (List Int)) (c:Nat),(∀l∈L,l.length<=c)->∀l∈ps.foldl zu L,l.length<=c+2*ps.length
 | [],L,c,h=>by simpa using h
 | q::r,L,c,h=>by
  have gd:∀(L:List (List Int)) (c i:Nat),(∀l∈L,l.length<=c)->(L.getD i []).length<=c:=fun L c i h=>by
   rw[List.getD_eq_getElem?_getD];cases e:L[i]? with
   | none=>simp
   | some l=>exact h l (List.mem_of_getElem? e)
  have st:∀(L:List (List Int)) (c i:Nat) (x:Int),(∀l∈L,l.length<=c)->∀l∈L.set i (L.getD i []++[x]),l.length<=c+1:=fun L c i x h l hl=>by
   rcases List.mem_or_eq_of_mem_set hl with hl | hl
   ·have:=h l hl;omega
   ·have:=gd L c i h;rw[hl];simp;simpa using this
  rw[List.foldl_cons]
  have:=xi r (zu L q) (c+2) (by unfold zu;exact st _ _ _ _ (st _ _ _ _ h));intro l hl
  have:=this l hl;simp;omega
structure Fars(E:Int->Int->Prop)(N:Nat)(pl:List Int)(fs:List (List (Int×Int))):Prop where
 len:fs.length=pl.length
 each:∀(i:Nat) (f:List (Int×Int)) (p:Int),fs[i]?=some f->pl[i]?=some p->Found E N p f/\f≠[]
theorem z0k(N:Nat)(fs:List (List (Int×Int))):(common N fs).Nodup:=(z0D N).filter _
theorem y7(N:Nat)(fs:List (List (Int×Int))):(yx N fs).map (·.1)=common N fs:=by
 unfold yx;rw[List.map_map];exact List.map_id' _
theorem xJ(N:Nat)(fs:List (List (Int×Int))):(common N fs).length<=N:=by
 have:=List.length_filter_le (fun g=>fs.all fun f=>(lk f g).isSome) (upto N);rw[zN]at this;exact this
theorem z1k{m:Int}{ps:List (Int×Int)}{pl:List Int}{n:Nat}{P:D->Nat->Prop}(W:WebOk m ps)(L:PlOk m pl)(h:∀fs,Fars (Edg ps) m.toNat pl fs->P (.p (.dict (dJ (yx m.toNat fs)))) n):Ok (z06 [.p (webD m ps),.p (plD pl)]) n P:=by
 have hlo:=W.lo;have hhi:=W.hi;have hll:=L.len;have hps:∀q∈ps,0<=q.1/\q.1<q.2/\q.2<((m.toNat:Nat):Int):=fun q hq=>by have:=W.inr q hq;omega
 have hEr:∀p q,Edg ps p q->0<=q/\q<((m.toNat:Nat):Int):=fun p q e=>by
  rcases e with e | e
  ·have:=W.inr _ e;simp at this;omega
  ·have:=W.inr _ e;simp at this;omega
 unfold z06 z5T;refine yp rfl ?_;walk_at "ev";refine z1x W ?_
 try walk_at "ev"
 have hpl:=W.len;have hTl:∀l∈zH m.toNat ps,l.length<1000:=fun l hl=>by
  have:=xi ps (List.replicate m.toNat []) 0 (fun l hl=>by rw[(List.mem_replicate.mp hl).2];simp) l hl;omega
 simp only[mComp];walk_at "ev";rw[z1o (by simp;omega)];walk_at "ev";refine xy (I:=fun k acc n'=>n'=n/\∃fs:List (List (Int×Int)),acc=fs.map farD/\fs.length=k/\∀(i:Nat) (f:List (Int×Int)) (p:Int),fs[i]?=some f->pl[i]?=some p->Found (Edg ps) m.toNat p f/\f≠[]) (fun k acc n' hk hI=>?_) (fun acc n' hI=>?_) ⟨rfl,[],rfl,rfl,fun i f p e=>by simp at e⟩
 ·obtain⟨rfl,fs,rfl,hlen,hfs⟩:=hI;have hk':k<pl.length:=by simpa using hk
  rw[List.getElem_map];unfold mYes;refine(ok_pure _ _).mpr ⟨fun _=>?_,fun z=>by cases z⟩;walk_at "ev";refine z1D (E:=Edg ps) (N:=m.toNat) (by omega) (yU _ _) hTl (fun i x hi=>yr hps hi) hEr (by have:=L.inr _ (List.getElem_mem hk');omega) fun f F hf=>?_;refine⟨_,rfl,rfl,fs++[f],by simp,by simp[hlen],fun i g p e1 e2=>?_⟩;by_cases hi:i<fs.length
  ·rw[List.getElem?_append_left hi]at e1;exact hfs i g p e1 e2
  ·have hi2:i=fs.length:=by have:=(List.getElem?_eq_some_iff.mp e1).1;simp at this;omega
   subst hi2;rw[List.getElem?_append_right (Nat.le_refl _),Nat.sub_self]at e1;simp at e1;subst e1;rw[hlen,List.getElem?_eq_getElem hk']at e2;cases e2;exact⟨F,hf⟩
 ·obtain⟨rfl,fs,rfl,hlen,hfs⟩:=hI;rw[List.length_map]at hlen;have FF:Fars (Edg ps) m.toNat pl fs:=⟨hlen,hfs⟩;have fne:∀f∈fs,f≠[]:=fun f hf=>by
   obtain⟨i,hi,rfl⟩:=List.mem_iff_getElem.mp hf;exact(hfs i _ _ (List.getElem?_eq_getElem hi) (List.getElem?_eq_getElem (by omega))).2
  try walk_at "ev"
  rw[wL];walk_at "ev";rw[zb (by omega),zX m (by omega)];walk_at "ev";refine z0L (f:=fun d=>match d with | .int g=>if fs.all (fun f=>(lk f g).isSome)then some (.int g)else none | _=>none) (fun d hd=>?_) ?_
  ·obtain⟨g,hg,rfl⟩:=List.mem_map.mp hd;have key:∀{Q:Bool->Nat->Prop},Q (fs.all fun f=>(lk f g).isSome) n'->Ok (mTru (mCallB (zn fun bs=>bs.all id) (mCons (mP (mComp (mIt (mVar 3)) mYes (mBin (fIn false) (mVar 5) (mVar 6)))) mNil)) ([some (Sl.val (.p (webD m ps))),some (Sl.val (.p (plD pl))),some (Sl.val (.p (yK (zH m.toNat ps)))),some (Sl.val (.p (.list (fs.map farD)))),none]++[some (Sl.val (.p (.int g)))])) n' Q:=fun{Q} hQ=>by
    walk_at "ev";simp only[mComp];walk_at "ev";rw[z18 (by simp;omega)];walk_at "ev";refine yg (f:=fun d=>match d with | .dict kvs=>.bool (yj kvs (.int g)).isSome | _=>.none) (fun d hd=>?_) ?_
    ·obtain⟨f,hf,rfl⟩:=List.mem_map.mp hd;walk_at "ev";rw[z4i (z3i (fne f hf))];walk_at "ev";refine⟨?_,by trivial⟩;rw[xv]
    ·try walk_at "ev"
     simp only[zn,List.map_map];rw[show((fun d=>match d with | .dict kvs=>PyData.bool (yj kvs (.int g)).isSome | _=>.none)∘farD)=fun(f:List (Int×Int))=>PyData.bool ((fun f=>(lk f g).isSome) f) by funext f;simp only[Function.comp,farD,xv,z0I,Option.isSome_map],zg];walk_at "ev";simpa[List.all_map,Function.comp_def]using hQ
   by_cases c:(fs.all fun f=>(lk f g).isSome)=true
   ·refine .inr ⟨.int g,by simp only[c,if_true],key ⟨c,rfl,?_⟩⟩;walk_at "ev";exact⟨by trivial,by trivial⟩
   ·refine .inl ⟨by show(if (fs.all fun f=>(lk f g).isSome)=true then some (PyData.int g)else none)=none;exact if_neg c,key ⟨by simpa using c,rfl⟩⟩
  ·rw[List.filterMap_map,show((fun d=>match d with | .int g=>if fs.all (fun f=>(lk f g).isSome)then some (PyData.int g)else none | _=>none)∘PyData.int)=fun g=>if (fun g=>fs.all (fun f=>(lk f g).isSome)) g then some (PyData.int g)else none from rfl,yR];rw[show(upto m.toNat).filter (fun g=>fs.all (fun f=>(lk f g).isSome))=common m.toNat fs from rfl];have hcl:=xJ m.toNat fs
   try walk_at "ev"
   rw[z18 (by simp;omega)];walk_at "ev";refine yg (f:=fun d=>match d with | .int g=>.tuple [.int g,.list ((zq fs g).map PyData.int)] | _=>.none) (fun d hd=>?_) ?_
   ·obtain⟨g,hg,rfl⟩:=List.mem_map.mp hd;have hg':=(List.mem_filter.mp hg).2;walk_at "ev";simp only[mComp];walk_at "ev";rw[z18 (by simp;omega)];walk_at "ev";refine yg (f:=fun d=>match d with | .dict kvs=>(yj kvs (.int g)).getD .none | _=>.none) (fun d hd=>?_) ?_
    ·obtain⟨f,hf,rfl⟩:=List.mem_map.mp hd;walk_at "ev";have h1:=List.all_eq_true.mp hg' f hf;obtain⟨v,hv⟩:=Option.isSome_iff_exists.mp h1;rw[z2v (z3i (fne f hf)),z0I,hv];walk_at "ev";refine⟨?_,by trivial⟩;rw[xv,z0I,hv];rfl
    ·try walk_at "ev"
     refine⟨?_,by trivial⟩;congr 4;unfold zq;rw[List.map_map,List.map_map];refine congrArg PyData.list (List.map_congr_left ?_);intro f hf;have h1:=List.all_eq_true.mp hg' f hf;obtain⟨v,hv⟩:=Option.isSome_iff_exists.mp h1;simp only[Function.comp,farD,xv,z0I,hv,Option.map_some,Option.getD_some]
   ·try walk_at "ev"
    have e1:((common m.toNat fs).map PyData.int).map (fun d=>match d with | .int g=>PyData.tuple [.int g,.list ((zq fs g).map PyData.int)] | _=>.none)=(yx m.toNat fs).map fun q=>.tuple [.int q.1,q.2]:=by
     unfold yx;rw[List.map_map,List.map_map];rfl
    rw[e1,show([]:List (PyData×PyData))=dJ [] from rfl,z2Y _ [] (by rw[List.nil_append,y7];exact z0k _ _) (by simp[yx];omega)];walk_at "ev";exact h fs FF
theorem z4B{ns:List Int}{m:Int}{n:Nat}{P:D->Nat->Prop}(hm:1<=m)(hm8:m<=8)(hn:n<2000)(h:∀pl n',PlOk m pl->n'<n+100->P (.p (plD pl)) n'):Ok (z4l [.scr ns,.town,.p (.int m)]) n P:=by
 unfold z4l z5W;refine yp rfl ?_;walk_at "ev";refine xY (by omega) (by decide) fun r r0 r1=>?_;walk_at "ev";by_cases c:r=0
 ·rw[if_pos (decide_eq_true c)];walk_at "ev";simp only[fRg1];rw[zb (by omega),zX m (by omega)];walk_at "ev";refine h (upto m.toNat) (n+1) ⟨fun e=>?_,fun p hp=>by have:=mem_upto.mp hp;omega,wS _,by rw[zN];omega⟩ (by omega)
  have:=congrArg List.length e;rw[zN]at this;simp at this;omega
 ·rw[if_neg (by simpa using c)];walk_at "ev";simp only[mComp];walk_at "ev";rw[zb (by omega),zX m (by omega)];walk_at "ev";refine xy (I:=fun k acc n'=>n'<=n+1+k/\∃l:List Int,acc=l.map PyData.int/\(∀x∈l,0<=x/\x<(k:Int))/\l.Pairwise (·<·)/\l.length<=k) (fun k acc n' hk hI=>?_) (fun acc n' hI=>?_) ⟨by omega,[],rfl,by simp,.nil,by simp⟩
  ·obtain⟨hn',l,rfl,hl,hs,hc⟩:=hI;have hk':k<m.toNat:=by simpa[zN]using hk
   have ek:(upto m.toNat)[k]'(by rw[zN];exact hk')=(k:Int):=by simp[upto]
   rw[List.getElem_map,ek];walk_at "ev";refine xY (by omega) (by decide) fun r2 r20 r21=>?_;walk_at "ev";refine⟨fun _=>⟨_,rfl,by omega,l++[(k:Int)],by simp,fun x hx=>?_,?_,by simp;omega⟩,fun _=>⟨by omega,l,rfl,fun x hx=>by have:=hl x hx;omega,hs,by omega⟩⟩
   ·rcases List.mem_append.mp hx with hx | hx
    ·have:=hl x hx;omega
    ·rw[List.mem_singleton.mp hx];omega
   ·rw[List.pairwise_append];exact⟨hs,by simp,fun a ha b hb=>by rw[List.mem_singleton.mp hb];exact(hl a ha).2⟩
  ·obtain⟨hn',l,rfl,hl,hs,hc⟩:=hI;rw[List.length_map,zN]at hn' hl hc
   try walk_at "ev"
   rw[z3w];walk_at "ev";cases l with
   | nil=>
    simp only[List.isEmpty_nil,Bool.not_true];walk_at "ev";refine xY (by omega) (by omega) fun r3 r30 r31=>?_;walk_at "ev";exact h [r3] _ ⟨by simp,fun p hp=>by rw[List.mem_singleton.mp hp];omega,by simp,by simp⟩ (by omega)
   | cons x l=>
    simp only[List.isEmpty_cons,Bool.not_false];walk_at "ev";refine h (x::l) _ ⟨by simp,fun p hp=>by have:=hl p hp;omega,hs,by omega⟩ (by omega)
noncomputable def best(r:List (Int×Int)):Option (Int×Int):=match r with
 | []=>none
 | _::t=>r[argBest (fun i j=>HT.lexLt [(r.getD i (0,0)).1,(r.getD i (0,0)).2] [(r.getD j (0,0)).1,(r.getD j (0,0)).2]) t.length]?
theorem xI(bt:Nat->Nat->Bool):∀k,argBest bt k<=k
 | 0=>Nat.le_refl _
 | k+1=>by unfold argBest;split;exact Nat.le_refl _;exact Nat.le_succ_of_le (xI bt k)
theorem uG(K:Nat->Int×Int):∀n,∀j,j<=n->¬Lx (K j) (K (argBest (fun i j=>HT.lexLt [(K i).1,(K i).2] [(K j).1,(K j).2]) n))
 | 0,j,hj=>by
  have:j=0:=by omega
  subst this;show ¬Lx (K 0) (K 0);unfold Lx;omega
 | n+1,j,hj=>by
  have ih:=uG K n;unfold argBest;by_cases c:HT.lexLt [(K (n+1)).1,(K (n+1)).2] [(K (argBest (fun i j=>HT.lexLt [(K i).1,(K i).2] [(K j).1,(K j).2]) n)).1,(K (argBest (fun i j=>HT.lexLt [(K i).1,(K i).2] [(K j).1,(K j).2]) n)).2]=true
  ·rw[if_pos c];have c':=(w4 _ _ _ _).mp c;by_cases e:j=n+1
   ·subst e;unfold Lx;omega
   ·have:=ih j (by omega);unfold Lx at this |-;omega
  ·rw[if_neg c];by_cases e:j=n+1
   ·subst e;intro z;exact c ((w4 _ _ _ _).mpr z)
   ·exact ih j (by omega)
theorem z4o{r:List (Int×Int)}(h:r≠[]):∃q,best r=some q/\q∈r/\∀z∈r,¬Lx z q:=by
 cases r with
 | nil=>exact absurd rfl h
 | cons x t=>
  have hle:=xI (fun i j=>HT.lexLt [((x::t).getD i (0,0)).1,((x::t).getD i (0,0)).2] [((x::t).getD j (0,0)).1,((x::t).getD j (0,0)).2]) t.length;have hlt:argBest (fun i j=>HT.lexLt [((x::t).getD i (0,0)).1,((x::t).getD i (0,0)).2] [((x::t).getD j (0,0)).1,((x::t).getD j (0,0)).2]) t.length<(x::t).length:=by rw[List.length_cons];exact Nat.lt_succ_of_le hle
  refine⟨_,List.getElem?_eq_getElem hlt,List.getElem_mem hlt,fun z hz=>?_⟩;obtain⟨j,hj,rfl⟩:=List.mem_iff_getElem.mp hz
  have:=uG (fun i=>(x::t).getD i (0,0)) t.length j (by simp at hj;omega);have g:∀i (hi:i<(x::t).length),(x::t).getD i (0,0)=(x::t)[i]:=fun i hi=>by rw[List.getD_eq_getElem?_getD,List.getElem?_eq_getElem hi];rfl
  rw[g j hj,g _ hlt]at this;exact this
noncomputable def wy(r:List (Int×Int)):PyData:=match best r with
 | some q=>zG q
 | none=>.none
theorem z1F(x:Int×Int)(t:List (Int×Int)):zh ((x::t).map zG)=none:=by simp[zG,zh]
theorem z0q(l:List (Int×Int)):(l.map zG).all xp=true:=by
 rw[List.all_eq_true];intro d hd;obtain⟨q,_,rfl⟩:=List.mem_map.mp hd;simp[zG,xp,zh]
theorem z4V(q:Int×Int):keyI (zG q)=[q.1,q.2]:=by simp[zG,keyI,zh]
theorem z5j(x:Int×Int)(t:List (Int×Int)):((x::t).map zG).getD (argBest (fun i j=>HT.lexLt (keyI (((x::t).map zG).getD i .none)) (keyI (((x::t).map zG).getD j .none))) t.length) .none=wy (x::t):=by
 have e:argBest (fun i j=>HT.lexLt (keyI (((x::t).map zG).getD i .none)) (keyI (((x::t).map zG).getD j .none))) t.length=argBest (fun i j=>HT.lexLt [((x::t).getD i (0,0)).1,((x::t).getD i (0,0)).2] [((x::t).getD j (0,0)).1,((x::t).getD j (0,0)).2]) t.length:=by
  have gen:∀(bt bt':Nat->Nat->Bool) (k:Nat),(∀i j,i<=k->j<=k->bt i j=bt' i j)->argBest bt k=argBest bt' k:=by
   intro bt bt' k
   induction k with
   | zero=>intro _;rfl
   | succ k ih=>
    intro h;have ih:=ih fun i j hi hj=>h i j (by omega) (by omega);have hle:=xI bt' k;unfold argBest;rw[ih,h (k+1) _ (Nat.le_refl _) (by omega)]
  refine gen _ _ _ fun i j hi hj=>?_;have g:∀i,i<=t.length->keyI (((x::t).map zG).getD i .none)=[((x::t).getD i (0,0)).1,((x::t).getD i (0,0)).2]:=fun i hi=>by
   have hi':i<(x::t).length:=by simp;omega
   rw[List.getD_eq_getElem?_getD,List.getElem?_map,List.getD_eq_getElem?_getD,List.getElem?_eq_getElem hi'];exact z4V _
  rw[g i hi,g j hj]
 rw[e,List.getD_eq_getElem?_getD,List.getElem?_map];unfold wy best;have hle:=xI (fun i j=>HT.lexLt [((x::t).getD i (0,0)).1,((x::t).getD i (0,0)).2] [((x::t).getD j (0,0)).1,((x::t).getD j (0,0)).2]) t.length;have hlt:argBest (fun i j=>HT.lexLt [((x::t).getD i (0,0)).1,((x::t).getD i (0,0)).2] [((x::t).getD j (0,0)).1,((x::t).getD j (0,0)).2]) t.length<(x::t).length:=by rw[List.length_cons];exact Nat.lt_succ_of_le hle
 simp only[List.getElem?_eq_getElem hlt];rfl
theorem ux(r:List (Int×Int)):z0G (.list (r.map zG)) .none=some (wy r):=by
 cases r with
 | nil=>rfl
 | cons x t=>
  have h1:=z1F x t;have h2:=z0q (x::t);have h3:=z5j x t;rw[List.map_cons]at h1 h2 h3 |-;simp only[z0G,h1,h2,if_true,List.length_map];rw[h3]
noncomputable def yA(hh:List Int->Int)(N:Nat)(fs:List (List (Int×Int))):List (Int×Int):=(common N fs).map fun g=>(hh (zq fs g),g)
noncomputable def maxI(l:List Int):Int:=l.max?.getD 0
theorem z1Z{N:Nat}{fs:List (List (Int×Int))}{g:Int}(h:g∈common N fs):lk (yx N fs) g=some (.list ((zq fs g).map PyData.int)):=
 z7v (by rw[y7];exact z0k N fs) (List.mem_map.mpr ⟨g,h,rfl⟩)
theorem z3q{l:List (Int×PyData)}(h:l.length<10000):z5k (.dict (dJ l))=some ((l.map (·.1)).map PyData.int):=by
 simp only[z5k];rw[if_pos (by unfold lim dJ;simp;omega)];unfold dJ;rw[List.map_map,List.map_map];rfl
theorem z3W{α:Type}{m:Mx α}{n:Nat}{P:α->Nat->Prop}(h:Ok m n P):Ok m.sure n P:=by
 obtain⟨a,n',e,p⟩:=h;exact⟨a,n',by unfold Mx.sure;rw[e],p⟩
theorem z0A{N:Nat}{fs:List (List (Int×Int))}{mk:Env'->Mx D}{e:Env'->Mx D}{ρ:Env'}{n:Nat}{P:PyData->Nat->Prop}(hN:N<=8)(f:Int->PyData)(hk:Ok (mk ρ) n fun d n'=>d=.p (.dict (dJ (yx N fs)))/\n'=n)(step:∀g∈common N fs,Ok (e (ρ++[some (Sl.val (.p (.int g)))])) n fun y n2=>y=.p (f g)/\n2=n)(h:P (.list ((common N fs).map f)) n):Ok (xM mk mYes e ρ) n P:=by
 unfold xM;simp only[ok_bind];refine hk.imp fun d n' hd=>?_;obtain⟨rfl,rfl⟩:=hd;have hl:(yx N fs).length<10000:=by have:=xJ N fs;simp[yx];omega
 rw[onP_p,z3q hl,y7];simp only[ok_some,ok_pure];refine z3W (yg (f:=fun d=>match d with | .int g=>f g | _=>.none) (fun d hd=>?_) ?_)
 ·obtain⟨g,hg,rfl⟩:=List.mem_map.mp hd;exact step g hg
 ·rw[List.map_map];exact h
theorem ua{l:List Int}(h:l≠[]):z0u [.list (l.map PyData.int)]=some (.int (maxI l)):=by
 simp only[z0u,yY,Option.bind_some];cases e:l.max? with
 | none=>rw[List.max?_eq_none_iff]at e;exact absurd e h
 | some M=>simp[maxI,e]
theorem z2U{fs:List (List (Int×Int))}(h:fs≠[])(g:Int):zq fs g≠[]:=by simpa[zq]using h
theorem Fars.ne{E:Int->Int->Prop}{N:Nat}{pl:List Int}{fs:List (List (Int×Int))}(F:Fars E N pl fs)(h:pl≠[]):fs≠[]:=fun e=>by
 have:=F.len;rw[e]at this;exact h (List.length_eq_zero_iff.mp this.symm)
theorem z3g{m:Int}{ps:List (Int×Int)}{pl:List Int}{n:Nat}{P:D->Nat->Prop}(W:WebOk m ps)(L:PlOk m pl)(h:∀fs,Fars (Edg ps) m.toNat pl fs->P (.p (wy (yA maxI m.toNat fs))) n):Ok (z3A [.p (webD m ps),.p (plD pl)]) n P:=by
 have hhi:=W.hi;unfold z3A z5U;refine yp rfl ?_
 try walk_at "ev"
 refine xU W L ?_
 try walk_at "ev"
 refine z1k W L fun fs F=>?_
 try walk_at "ev"
 refine z0A (N:=m.toNat) (fs:=fs) (by omega) (fun g=>zG (maxI (zq fs g),g)) ?_ (fun g hg=>?_) ?_
 ·try walk_at "ev"
  exact⟨by trivial,by trivial⟩
 ·have hne:yx m.toNat fs≠[]:=fun e=>by
   have:=y7 m.toNat fs;rw[e]at this;rw[<-this]at hg;exact nomatch hg
  try walk_at "ev"
  rw[z2v hne,z1Z hg]
  try walk_at "ev"
  rw[ua (z2U (F.ne L.ne) g)]
  try walk_at "ev"
  exact⟨rfl,by trivial⟩
 ·try walk_at "ev"
  rw[show(common m.toNat fs).map (fun g=>zG (maxI (zq fs g),g))=(yA maxI m.toNat fs).map zG by unfold yA;rw[List.map_map];rfl,ux]
  try walk_at "ev"
  exact h fs F
theorem z5r{E:Int->Int->Prop}{N:Nat}{pl:List Int}{fs:List (List (Int×Int))}(F:Fars E N pl fs){g:Int}(hg:g∈common N fs):∀d∈zq fs g,0<=d/\d<(N:Int):=fun d hd=>by
 obtain⟨f,hf,rfl⟩:=List.mem_map.mp hd;obtain⟨i,hi,rfl⟩:=List.mem_iff_getElem.mp hf;have hl:=F.len;have h1:=List.all_eq_true.mp (List.mem_filter.mp hg).2 _ hf;obtain⟨v,hv⟩:=Option.isSome_iff_exists.mp h1
 have:=((F.each i _ _ (List.getElem?_eq_getElem hi) (List.getElem?_eq_getElem (by omega))).1).some g v (z1s hv);rw[hv];exact⟨this.1,this.2.1⟩
theorem z2b{m:Int}{ps:List (Int×Int)}{pl:List Int}{n:Nat}{P:D->Nat->Prop}(W:WebOk m ps)(L:PlOk m pl)(h:∀fs,Fars (Edg ps) m.toNat pl fs->P (.p (wy (yA List.sum m.toNat fs))) n):Ok (z2q [.p (webD m ps),.p (plD pl)]) n P:=by
 have hhi:=W.hi;have hll:=L.len;unfold z2q z5m;refine yp rfl ?_
 try walk_at "ev"
 refine xU W L ?_
 try walk_at "ev"
 refine z1k W L fun fs F=>?_
 try walk_at "ev"
 refine z0A (N:=m.toNat) (fs:=fs) (by omega) (fun g=>zG ((zq fs g).sum,g)) ?_ (fun g hg=>?_) ?_
 ·try walk_at "ev"
  exact⟨by trivial,by trivial⟩
 ·have hne:yx m.toNat fs≠[]:=fun e=>by
   have:=y7 m.toNat fs;rw[e]at this;rw[<-this]at hg;exact nomatch hg
  try walk_at "ev"
  rw[z2v hne,z1Z hg]
  try walk_at "ev"
  have hs:fSum [.list ((zq fs g).map PyData.int)]=some (.int (zq fs g).sum):=by
   simp only[fSum,yY,Option.bind_some];rw[if_pos ⟨by have:=F.len;simp[zq];omega,List.all_eq_true.mpr fun d hd=>by have:=z5r F hg d hd;simp;omega⟩]
  rw[hs]
  try walk_at "ev"
  exact⟨rfl,by trivial⟩
 ·try walk_at "ev"
  rw[show(common m.toNat fs).map (fun g=>zG ((zq fs g).sum,g))=(yA List.sum m.toNat fs).map zG by unfold yA;rw[List.map_map];rfl,ux]
  try walk_at "ev"
  exact h fs F
noncomputable def tieB(ps:List (Int×Int))(x o:Int):Bool:=decide ((x,o)∈ps\/(o,x)∈ps)
theorem tieB_iff{ps:List (Int×Int)}{x o:Int}:tieB ps x o=true↔Edg ps x o:=by unfold tieB Edg;simp
noncomputable def nx(m:Int)(ps:List (Int×Int))(c:List Int):List Int:=(upto m.toNat).filter fun x=>c.any fun o=>tieB ps x o
noncomputable def stp(m:Int)(ps:List (Int×Int)):Nat->Int->List Int
 | 0,p=>[p]
 | k+1,p=>nx m ps (stp m ps k p)
theorem z7i{m:Int}{ps:List (Int×Int)}{c:List Int}{x:Int}:x∈nx m ps c↔(0<=x/\x<m)/\∃o∈c,Edg ps x o:=by
 unfold nx;rw[List.mem_filter,mem_upto,List.any_eq_true];constructor
 ·rintro⟨h,o,ho,e⟩;exact⟨by omega,o,ho,tieB_iff.mp e⟩
 ·rintro⟨h,o,ho,e⟩;exact⟨by omega,o,ho,tieB_iff.mpr e⟩
theorem wc{m:Int}{ps:List (Int×Int)}(W:WebOk m ps){p q:Int}(h:Edg ps p q):(0<=p/\p<m)/\0<=q/\q<m/\p≠q:=by
 rcases h with h | h
 ·have:=W.inr _ h;simp at this;omega
 ·have:=W.inr _ h;simp at this;omega
theorem Edg.symm{ps:List (Int×Int)}{p q:Int}(h:Edg ps p q):Edg ps q p:=h.elim .inr .inl
theorem z0O{m:Int}{ps:List (Int×Int)}(W:WebOk m ps){p:Int}(hp:0<=p/\p<m):∀{k:Nat} {x:Int},x∈stp m ps k p↔Walk (Edg ps) k p x
 | 0,x=>by
  simp only[stp,List.mem_singleton];constructor
  ·rintro rfl;exact .nil _
  ·intro w;cases w;rfl
 | k+1,x=>by
  simp only[stp,z7i];constructor
  ·rintro⟨_,o,ho,e⟩;exact((z0O W hp).mp ho).snoc e.symm
  ·intro w;obtain⟨v,w1,e⟩:=w.last;exact⟨(wc W e.symm).1,v,(z0O W hp).mpr w1,e.symm⟩
noncomputable def both(m:Int)(ps:List (Int×Int))(pl:List Int)(k:Nat):List Int:=(upto m.toNat).filter fun g=>pl.all fun p=>decide (g∈stp m ps k p)
theorem xG{m:Int}{ps:List (Int×Int)}{pl:List Int}(W:WebOk m ps)(L:PlOk m pl){k:Nat}{g:Int}:g∈both m ps pl k↔(0<=g/\g<m)/\∀p∈pl,Walk (Edg ps) k p g:=by
 unfold both;rw[List.mem_filter,mem_upto,List.all_eq_true];constructor
 ·rintro⟨h,e⟩;exact⟨by omega,fun p hp=>(z0O W (L.inr p hp)).mp (of_decide_eq_true (e p hp))⟩
 ·rintro⟨h,e⟩;exact⟨by omega,fun p hp=>decide_eq_true ((z0O W (L.inr p hp)).mpr (e p hp))⟩
theorem z3d{m:Int}{ps:List (Int×Int)}{pl:List Int}(W:WebOk m ps)(L:PlOk m pl)(h:∀k,k<2*m.toNat->both m ps pl k=[])(k:Nat):both m ps pl k=[]:=by
 rcases hb:both m ps pl k with _ | ⟨g,r⟩
 ·rfl
 ·exfalso;have hg:=(xG W L).mp (show g∈both m ps pl k by rw[hb];simp)
  have:=W.lo;obtain⟨k',hk,hw⟩:=z0l (n:=m.toNat) (E:=Edg ps) (fun p q e=>by have:=wc W e;omega) (fun _ _ e=>e.symm) (ns:=pl) (fun p hp=>by have:=L.inr p hp;omega) L.ne hg.2
  have:=(xG W L).mpr ⟨hg.1,hw⟩;rw[h k' hk]at this;exact nomatch this
noncomputable abbrev ilD(l:List Int):PyData:=.list (l.map PyData.int)
theorem z4v{T:List (List Int)}{i:Int}(h0:0<=i)(h1:i.toNat<T.length):fIx (yK T) (.int i)=some (.list ((T.getD i.toNat []).map PyData.int)):=by
 refine z0o h0 ?_;rw[List.getElem?_map,List.getElem?_eq_getElem h1,List.getD_eq_getElem?_getD,List.getElem?_eq_getElem h1];rfl
section
variable{m:Int}{ps:List (Int×Int)}{n:Nat}{P:D->Nat->Prop}
theorem z66(W:WebOk m ps){i:Int}(hi:0<=i/\i<m){x:Int}:x∈(zH m.toNat ps).getD i.toNat []↔Edg ps i x:=by
 have h:=yr (n:=m.toNat) (ps:=ps) (fun q hq=>by have:=W.inr q hq;omega) (i:=i.toNat) (x:=x) (by omega);rw[h,show((i.toNat:Nat):Int)=i by omega]
theorem z8E(W:WebOk m ps)(i:Nat):((zH m.toNat ps).getD i []).length<1000:=by
 have hpl:=W.len;by_cases hi:i<(zH m.toNat ps).length
 ·have:((zH m.toNat ps).getD i []).length<=0+2*ps.length:=xi ps (List.replicate m.toNat []) 0 (fun l hl=>by rw[(List.mem_replicate.mp hl).2];simp) _ (z4F (d:=[]) hi);omega
 ·rw[List.getD_eq_getElem?_getD,List.getElem?_eq_none (by omega)];simp
theorem z32(W:WebOk m ps){c:List Int}(h:P (.p (ilD (nx m ps c))) n):Ok (z3R [.p (yK (zH m.toNat ps)),.p (ilD c)]) n P:=by
 have hlo:=W.lo;have hhi:=W.hi;unfold z3R z5i;refine t_fn rfl ?_;walk_at "e";rw[show fLen [yK (zH m.toNat ps)]=some (.int m) by unfold yK;rw[fLen_l,List.length_map,yU];congr 2;omega];walk_at "e";rw[zb (by omega),zX _ (by omega)];walk_at "e";refine z4k (J:=PyData.int) (f:=fun x=>c.any fun o=>tieB ps x o) (fun x hx=>?_) (fun x hx=>?_) ?_
 ·have hx':=mem_upto.mp hx;walk_at "e";rw[z4v (by omega) (by rw[yU];omega)];walk_at "e";rw[z18 (by rw[List.length_map];have:=z8E W x.toNat;omega)];walk_at "e";refine zf (J:=PyData.int) (J':=PyData.bool) (f:=fun o=>decide (o∈c)) (fun o ho=>?_) ?_
  ·walk_at "e";rw[z2C];walk_at "e";exact⟨by trivial,by trivial⟩
  ·try walk_at "e"
   simp only[zn];rw[show(((zH m.toNat ps).getD x.toNat []).map fun o=>decide (o∈c)).map PyData.bool=((zH m.toNat ps).getD x.toNat []).map (fun o=>PyData.bool ((fun o=>decide (o∈c)) o)) by rw[List.map_map];rfl,zg];walk_at "e";refine⟨?_,by trivial⟩;rw[Bool.eq_iff_iff,List.any_map,List.any_eq_true,List.any_eq_true];constructor
   ·rintro⟨o,ho,e⟩;exact⟨o,by simpa using e,tieB_iff.mpr ((z66 W (by omega)).mp ho)⟩
   ·rintro⟨o,ho,e⟩;exact⟨o,(z66 W (by omega)).mpr (tieB_iff.mp e),by simpa using ho⟩
 ·intro _;walk_at "e";exact⟨by trivial,by trivial⟩
 ·try walk_at "e"
  exact h
theorem z8V{k:Nat}{pl:List Int}(g:Int):(zn fun bs=>bs.all id) [.list ((pl.map fun p=>decide (g∈stp m ps k p)).map PyData.bool)]=some (.bool (pl.all fun p=>decide (g∈stp m ps k p))):=by
 simp only[zn];rw[List.map_map,show(PyData.bool∘fun p=>decide (g∈stp m ps k p))=fun p=>PyData.bool ((fun p=>decide (g∈stp m ps k p)) p) from rfl,zg];simp[List.all_map,Function.comp_def]
noncomputable def z35(m:Int)(ps:List (Int×Int))(pl:List Int):Option (Nat×Int)->Prop
 | some (k,g)=>(∃r,both m ps pl k=g::r)/\∀j,j<k->both m ps pl j=[]
 | none=>∀k,both m ps pl k=[]
noncomputable def rsD:Option (Nat×Int)->PyData
 | some (k,g)=>.tuple [.int k,.int g]
 | none=>.none
theorem z0t{α:Type}{f:α->Bool}:∀{l:List α} {j:Nat} (hj:j<l.length),(∀i (hi:i<j),f (l[i]'(by omega))=false)->f l[j]=true->∃r,l.filter f=l[j]::r
 | x::l,0,_,_,h=>⟨l.filter f,by rw[List.filter_cons,if_pos (by simpa using h)];rfl⟩
 | x::l,j+1,hj,h0,h=>by
  have hx:=h0 0 (by omega);rw[List.filter_cons,if_neg (by simpa using hx)];exact z0t (l:=l) (j:=j) (by simpa using hj) (fun i hi=>by simpa using h0 (i+1) (by omega)) (by simpa using h)
theorem z5s{α:Type}{f:α->Bool}{l:List α}(h:∀i (hi:i<l.length),f l[i]=false):l.filter f=[]:=by
 rw[List.filter_eq_nil_iff];intro a ha;obtain⟨i,hi,rfl⟩:=List.mem_iff_getElem.mp ha;rw[h i hi];decide
theorem yb{N k:Nat}(h:k<(upto N).length):(upto N)[k]=(k:Int):=by simp[upto]
theorem uC{pl:List Int}(W:WebOk m ps)(L:PlOk m pl)(h:∀r,z35 m ps pl r->(∀k g,r=some (k,g)->k<2*m.toNat)->P (.p (rsD r)) n):Ok (z1R [.p (webD m ps),.p (plD pl)]) n P:=by
 have hlo:=W.lo;have hhi:=W.hi;have hll:=L.len;unfold z1R z5w;refine t_fn rfl ?_;walk_at "e";refine xU W L ?_;walk_at "e";refine z1x W ?_;walk_at "e";rw[z1o (by simp;omega)];walk_at "e";refine zf (J:=PyData.int) (J':=ilD) (f:=fun p=>[p]) (fun p hp=>?_) ?_
 ·walk_at "e";exact⟨by trivial,by trivial⟩
 try walk_at "e"
 rw[wL];walk_at "e";rw[z6N (by decide)];walk_at "e";rw[zb (by omega),zX _ (by omega)];walk_at "e";refine ue (fun k ρ n'=>n'=n/\(∀j,j<k->both m ps pl j=[])/\∃(x4 x5:Option Sl),ρ=[some (Sl.val (.p (webD m ps))),some (Sl.val (.p (plD pl))),some (Sl.val (.p (yK (zH m.toNat ps)))),some (Sl.val (.p (.list ((pl.map (stp m ps k)).map ilD)))),x4,x5]) (fun k ρ n' hk hI=>?_) (fun ρ n' hI=>?_) ⟨rfl,fun j hj=>absurd hj (Nat.not_lt_zero _),none,none,rfl⟩
 ·obtain⟨rfl,hbe,x4,x5,rfl⟩:=hI;have hk':k<(2*m).toNat:=by simpa[zN]using hk
  rw[List.getElem_map,yb];refine⟨_,rfl,?_⟩;walk_at "e";rw[wL];walk_at "e";rw[zb (by omega),zX _ (by omega)];walk_at "e";refine ue (fun j ρ n2=>n2=n'/\(∀i:Nat,i<j->(pl.all fun p=>decide ((i:Int)∈stp m ps k p))=false)/\∃(x5:Option Sl),ρ=[some (Sl.val (.p (webD m ps))),some (Sl.val (.p (plD pl))),some (Sl.val (.p (yK (zH m.toNat ps)))),some (Sl.val (.p (.list ((pl.map (stp m ps k)).map ilD)))),some (Sl.val (.p (.int (k:Int)))),x5]) (fun j ρ n2 hj hI=>?_) (fun ρ n2 hI=>?_) ⟨rfl,fun j hj=>absurd hj (Nat.not_lt_zero _),x5,rfl⟩
  ·obtain⟨rfl,hno,y5,rfl⟩:=hI;have hj':j<m.toNat:=by simpa[zN]using hj
   rw[List.getElem_map,yb];refine⟨_,rfl,?_⟩;walk_at "e";rw[z18 (by simp;omega)];walk_at "e";rw[List.map_map];refine zf (J:=ilD∘stp m ps k) (J':=PyData.bool) (f:=fun p=>decide ((j:Int)∈stp m ps k p)) (fun p hp=>?_) ?_
   ·walk_at "e";rw[Function.comp,z2C];walk_at "e";exact⟨by trivial,by trivial⟩
   try walk_at "e"
   rw[z8V];walk_at "e";by_cases ca:(pl.all fun p=>decide ((j:Int)∈stp m ps k p))=true
   ·rw[if_pos ca];walk_at "e";have e:=z0t (f:=fun g=>pl.all fun p=>decide (g∈stp m ps k p)) (l:=upto m.toNat) (j:=j) (by rw[zN];exact hj') (fun i hi=>by rw[yb];exact hno i hi) (by rw[yb];exact ca);rw[yb]at e;exact h (some (k,(j:Int))) ⟨e,hbe⟩ fun k' g' z=>by cases z;omega
   ·rw[if_neg ca];walk_at "e";refine⟨by trivial,fun i hi=>?_,_,rfl⟩;rcases Nat.lt_succ_iff_lt_or_eq.mp hi with z | z
    ·exact hno i z
    ·rw[z];simpa using ca
  ·obtain⟨rfl,hno,y5,rfl⟩:=hI;rw[List.length_map,zN]at hno
   try walk_at "e"
   rw[z18 (by simp;omega)];walk_at "e";rw[List.map_map];refine zf (J:=ilD∘stp m ps k) (J':=ilD) (f:=fun p=>stp m ps (k+1) p) (fun p hp=>?_) ?_
   ·walk_at "e";refine z32 W ?_;exact⟨rfl,rfl⟩
   try walk_at "e"
   refine⟨by trivial,fun j hj=>?_,_,_,rfl⟩;rcases Nat.lt_succ_iff_lt_or_eq.mp hj with z | z
   ·exact hbe j z
   ·rw[z];exact z5s fun i hi=>by rw[yb];rw[zN]at hi;exact hno i hi
 ·obtain⟨rfl,hbe,x4,x5,rfl⟩:=hI;rw[List.length_map,zN]at hbe
  try walk_at "e"
  exact h none (fun k=>z3d W L (fun j hj=>hbe j (by omega)) k) fun _ _ z=>nomatch z
end
theorem z2G{l:List Int}(h:l≠[]):maxI l∈l/\∀x∈l,x<=maxI l:=by
 unfold maxI;cases e:l.max? with
 | none=>rw[List.max?_eq_none_iff]at e;exact absurd e h
 | some M=>exact List.max?_eq_some_iff.mp e
theorem z26{r:List (Int×Int)}(h:r≠[]):∃q,wy r=zG q/\q∈r/\∀z∈r,¬Lx z q:=by
 obtain⟨q,e,h1,h2⟩:=z4o h;exact⟨q,by unfold wy;rw[e],h1,h2⟩
theorem z5E(a b:Bool):fEq true (.bool a) (.bool b)=some (.bool (!decide (a=b))):=by
 cases a<;>cases b<;>rfl
theorem z73{m:Int}(hlo:1<=m)(hhi:m<=8):PlOk m (upto m.toNat):=
 ⟨fun e=>by have:=congrArg List.length e;rw[zN]at this;simp at this;omega,fun p hp=>by have:=mem_upto.mp hp;omega,by
  unfold upto;exact List.pairwise_map.mpr (List.pairwise_lt_range.imp fun h=>by omega),by rw[zN];omega⟩
noncomputable def minI(l:List Int):Int:=l.min?.getD 0
theorem z2S{l:List Int}(h:l≠[]):minI l∈l/\∀x∈l,minI l<=x:=by
 unfold minI;cases e:l.min? with
 | none=>rw[List.min?_eq_none_iff]at e;exact absurd e h
 | some M=>exact List.min?_eq_some_iff.mp e
theorem z31(l:List Int):z0G (.list (l.map PyData.int)) (.int 0)=some (.int (minI l)):=by
 cases l with
 | nil=>rfl
 | cons x r=>
  have h1:=yY (x::r);rw[List.map_cons]at h1 |-;simp only[z0G,h1];cases e:(x::r).min? with
  | none=>rw[List.min?_eq_none_iff]at e;cases e
  | some M=>simp[minI,e]
theorem z3x{N:Nat}{fs:List (List (Int×Int))}{mk:Env'->Mx D}{c:Env'->Mx Bool}{e:Env'->Mx D}{ρ:Env'}{n:Nat}{P:PyData->Nat->Prop}(hN:N<=8)(t:Int->Bool)(hk:Ok (mk ρ) n fun d n'=>d=.p (.dict (dJ (yx N fs)))/\n'=n)(step:∀g∈common N fs,Ok (c (ρ++[some (Sl.val (.p (.int g)))])) n fun b n2=>b=t g/\n2=n)(step2:∀g∈common N fs,Ok (e (ρ++[some (Sl.val (.p (.int g)))])) n fun y n2=>y=.p (.int g)/\n2=n)(h:P (.list (((common N fs).filter t).map PyData.int)) n):Ok (xM mk c e ρ) n P:=by
 unfold xM;simp only[ok_bind];refine hk.imp fun d n' hd=>?_;obtain⟨rfl,rfl⟩:=hd;have hl:(yx N fs).length<10000:=by have:=xJ N fs;simp[yx];omega
 rw[onP_p,z3q hl,y7];simp only[ok_some,ok_pure];refine z3W (z0L (f:=fun d=>match d with | .int g=>if t g=true then some (.int g)else none | _=>none) (fun d hd=>?_) ?_)
 ·obtain⟨g,hg,rfl⟩:=List.mem_map.mp hd;by_cases ht:t g=true
  ·refine .inr ⟨.int g,by show(if t g=true then some (PyData.int g)else none)=_;rw[if_pos ht],(step g hg).imp fun b n2 hb=>⟨hb.1.trans ht,hb.2,step2 g hg⟩⟩
  ·refine .inl ⟨by show(if t g=true then some (PyData.int g)else none)=_;rw[if_neg ht],(step g hg).imp fun b n2 hb=>⟨hb.1.trans (by simpa using ht),hb.2⟩⟩
 ·rw[List.filterMap_map,show((fun d=>match d with | .int g=>if t g=true then some (PyData.int g)else none | _=>none)∘PyData.int)=fun g=>if t g then some (PyData.int g)else none from rfl,yR];exact h
noncomputable def midL(N:Nat)(fs:List (List (Int×Int))):List Int:=(common N fs).filter fun g=>decide (maxI (zq fs g)=minI ((common N fs).map fun g=>maxI (zq fs g)))
theorem z13{m:Int}{ps:List (Int×Int)}{n:Nat}{P:D->Nat->Prop}(W:WebOk m ps)(h:∀fs,Fars (Edg ps) m.toNat (upto m.toNat) fs->P (.p (.list ((midL m.toNat fs).map PyData.int))) n):Ok (z2l [.p (webD m ps)]) n P:=by
 have hlo:=W.lo;have hhi:=W.hi;have L:=z73 hlo hhi;unfold z2l z57;refine yp rfl ?_;walk_at "ee";refine xq W ?_;walk_at "ee";rw[wL];walk_at "ee";simp only[fRg1];rw[zb (by omega),zX m (by omega)];walk_at "ee";refine z1k W L fun fs Fr=>?_;walk_at "ee";have mx:∀{g:Int} {ρ:Env'} {Q:D->Nat->Prop},g∈common m.toNat fs->slW ρ[1]?=some (.p (.dict (dJ (yx m.toNat fs))))->slW ρ[3]?=some (.p (.int g))->Q (.p (.int (maxI (zq fs g)))) n->Ok (mCallB z0u (mCons (mBin fIx (mVar 1) (mVar 3)) mNil) ρ) n Q:=fun{g ρ Q} hg e1 e3 hQ=>by
  have hne:yx m.toNat fs≠[]:=fun e=>by
   have:=y7 m.toNat fs;rw[e]at this;rw[<-this]at hg;exact nomatch hg
  simp only[mCallB,mCons,mNil,mBin,mVar,e1,e3];walk_at "ee";rw[z2v hne,z1Z hg];walk_at "ee";rw[ua (z2U (Fr.ne L.ne) g)];walk_at "ee";exact hQ
 refine z0A (N:=m.toNat) (fs:=fs) (by omega) (fun g=>.int (maxI (zq fs g))) ?_ (fun g hg=>?_) ?_
 ·walk_at "ee";exact⟨by trivial,by trivial⟩
 ·exact mx hg rfl rfl ⟨rfl,rfl⟩
 ·walk_at "ee";rw[show(common m.toNat fs).map (fun g=>PyData.int (maxI (zq fs g)))=((common m.toNat fs).map fun g=>maxI (zq fs g)).map PyData.int by rw[List.map_map];rfl,z31];walk_at "ee";refine z3x (N:=m.toNat) (fs:=fs) (by omega) (fun g=>decide (maxI (zq fs g)=minI ((common m.toNat fs).map fun g=>maxI (zq fs g)))) ?_ (fun g hg=>?_) (fun g hg=>?_) ?_
  ·walk_at "ee";exact⟨by trivial,by trivial⟩
  ·simp only[mTest,mBin,ok_bind];refine mx hg rfl rfl ?_;walk_at "ee";exact⟨by trivial,by trivial⟩
  ·walk_at "ee";exact⟨by trivial,by trivial⟩
  ·walk_at "ee";exact h fs Fr
theorem z3k{i j:Nat}{m:Env'->Mx D}{ρ:Env'}{n:Nat}{P:Out->Nat->Prop}{la l:List PyData}(ha:ownL ρ i=some la)(hl:ownL ρ j=some l)(hij:i≠j)(hlen:la.length<10000)(h:Ok (m ρ) n fun d n'=>∃(r:Int) (hr:r.toNat<l.length),d=.p (.int r)/\0<=r/\r<1000/\P (.nx ((ρ.set j (some (Sl.own (.list (l.eraseIdx r.toNat))))).set i (some (Sl.own (.list (la++[l[r.toNat]])))))) n'):Ok (z0Y i j m ρ) n P:=by
 unfold z0Y;simp only[ha,hl,ok_bind,ok_some];refine h.imp fun d n' ⟨r,hr,e,r0,r1,hp⟩=>?_;subst e;simp only[onP_p,Option.bind_some];rw[if_pos ⟨by omega,by omega,hij,by unfold lim;omega⟩];have e:seqIndex? r l.length=some r.toNat:=by
  rw[seqIndex_of r0 (by omega)]
 rw[e];simp only[Option.bind_some,List.getElem?_eq_getElem hr,Option.map_some,ok_some];exact hp
theorem z17{α β:Type}(f:α->β):∀(l:List α) (i:Nat),(l.map f).eraseIdx i=(l.eraseIdx i).map f
 | [],_=>rfl
 | _::_,0=>rfl
 | x::l,i+1=>by rw[List.map_cons,List.eraseIdx_cons_succ,z17 f l i,List.eraseIdx_cons_succ,List.map_cons]
theorem uj{α:Type}:∀(l:List α) (i:Nat) (h:i<l.length),([l[i]]++l.eraseIdx i).Perm l
 | [],_,h=>absurd h (by simp)
 | x::l,0,_=>List.Perm.refl _
 | x::l,i+1,h=>by
  have ih:=uj l i (by simpa using h);rw[List.eraseIdx_cons_succ,List.getElem_cons_succ];exact(List.Perm.swap x (l[i]'(by simpa using h)) (l.eraseIdx i)).trans (ih.cons x)
theorem z5G{ns:List Int}{m:Nat}{n:Nat}{P:D->Nat->Prop}(hm:m<=8)(hn:n<5000)(h:∀l n',l.Perm (upto m)->n'<=n+10->P (.p (plD l)) n'):Ok (z3T [.scr ns,.town,.p (.int m)]) n P:=by
 unfold z3T z5F;refine t_fn rfl ?_;unfold z2o;walk_at "e";rw[zb (by omega),zX _ (by omega)];walk_at "e";unfold uo;refine z2g (fun μ ρ n'=>∃(left made:List Int),ρ=[some (Sl.val (.scr ns)),some (Sl.val .town),some (Sl.val (.p (.int m))),some (Sl.own (.list (left.map PyData.int))),some (Sl.own (.list (made.map PyData.int)))]/\(made++left).Perm (upto m)/\μ=left.length/\n'=n+made.length) (fun μ ρ n' hI=>?_) (μ:=m) (by omega) ⟨upto m,[],by rw[show(m:Int).toNat=m by omega];rfl,by simp,by rw[zN],by simp⟩;obtain⟨left,made,rfl,hp,rfl,rfl⟩:=hI;have hlen:=hp.length_eq;rw[List.length_append,zN]at hlen;walk_at "e";rw[z3w];walk_at "e";cases left with
 | nil=>
  refine⟨fun z=>by simp at z,fun _=>?_⟩
  try walk_at "e"
  rw[List.append_nil]at hp;exact h made _ hp (by simp at hlen;omega)
 | cons x r=>
  refine⟨fun _=>⟨r.length,by simp,?_⟩,fun z=>by simp at z⟩;refine z3k (la:=made.map PyData.int) (l:=(x::r).map PyData.int) rfl rfl (by decide) (by rw[List.length_map];omega) ?_;walk_at "e";refine xY (by omega) (by simp only[List.length_map,List.length_cons];omega) fun q q0 q1=>?_;simp only[List.length_map,List.length_cons]at q1 hlen;have hq:q.toNat<(x::r).length:=by simp only[List.length_cons];omega
  refine⟨q,by simpa using hq,rfl,q0,by omega,r.length,Nat.le_refl _,(x::r).eraseIdx q.toNat,made++[(x::r)[q.toNat]],?_,?_,?_,by simp;omega⟩
  ·have e1:=z17 PyData.int (x::r) q.toNat;have e2:((x::r).map PyData.int)[q.toNat]'(by simpa using hq)=PyData.int (x::r)[q.toNat]:=List.getElem_map ..;simp only[List.map_cons]at e1 e2;rw[e1,e2,List.map_append];rfl
  ·refine List.Perm.trans ?_ hp;rw[List.append_assoc];refine List.Perm.append_left _ ?_;exact uj (x::r) q.toNat hq
  ·rw[List.length_eraseIdx_of_lt hq];simp
theorem z1t{m:Nat}{l:List Int}{n:Nat}{P:D->Nat->Prop}(hm:m<=8)(hl:l.Perm (upto m))(h:P (.p .none) n):Ok (z4E [.p (plD l),.p (.int m)]) n P:=by
 have hlen:=hl.length_eq;rw[zN]at hlen;unfold z4E z5Z;refine t_fn rfl ?_;walk_at "e";unfold F_q5 b_q5;refine t_fn rfl ?_;walk_at "e";refine xm (by omega) (fun x hx=>by have:=mem_upto.mp (hl.mem_iff.mp hx);omega) ?_;walk_at "e";obtain⟨r,e1,e2,e3⟩:=z1E (l:=l) (by omega);rw[e1];unfold z2o;walk_at "e";rw[zb (by omega),zX _ (by omega),show(m:Int).toNat=m by omega];walk_at "e";have er:r=upto m:=wO (z05 e3 (e2.trans hl) ((wS m).imp fun{a b} h=>by omega)) (wS m) fun x=>(e2.trans hl).mem_iff;rw[wp,decide_eq_true er];walk_at "e";exact h
section
variable{m:Int}{nm:List Int}
theorem uI(hp:nm.Perm (upto m.toNat)):nm.length=m.toNat:=by rw[hp.length_eq,zN]
theorem z6q(hp:nm.Perm (upto m.toNat)):nm.Nodup:=hp.nodup_iff.mpr (z0D _)
theorem upto_mem{k:Nat}{y:Int}:y∈upto k↔0<=y/\y<(k:Int):=by
 simp only[upto,List.mem_map,List.mem_range];constructor
 ·rintro⟨a,ha,rfl⟩;omega
 ·intro h;exact⟨y.toNat,by omega,by omega⟩
theorem z8h(h0:0<=m)(hp:nm.Perm (upto m.toNat)){y:Int}(hy:0<=y/\y<m):0<=nm.getD y.toNat 0/\nm.getD y.toNat 0<m:=by
 have hl:=uI hp
 have:=upto_mem.mp (hp.mem_iff.mp (z4F (l:=nm) (i:=y.toNat) (d:=0) (by omega)));omega
theorem z7W(h0:0<=m)(hp:nm.Perm (upto m.toNat)){y z:Int}(hy:0<=y/\y<m)(hz:0<=z/\z<m)(e:nm.getD y.toNat 0=nm.getD z.toNat 0):y=z:=by
 have hl:=uI hp;rw[List.getD_eq_getElem?_getD,List.getD_eq_getElem?_getD,List.getElem?_eq_getElem (show y.toNat<nm.length by omega),List.getElem?_eq_getElem (show z.toNat<nm.length by omega)]at e
 have:=(List.getElem_inj (z6q hp)).mp (show nm[y.toNat]=nm[z.toNat] from e);omega
theorem z2f(h0:0<=m)(hp:nm.Perm (upto m.toNat)){y:Int}(hy:0<=y/\y<m):nm.idxOf (nm.getD y.toNat 0)=y.toNat:=by
 have hl:=uI hp;rw[List.getD_eq_getElem?_getD,List.getElem?_eq_getElem (show y.toNat<nm.length by omega)];exact(z6q hp).idxOf_getElem _ _
end
theorem ur(q:Int×Int):keyI (zG q)=[q.1,q.2]:=by simp[zG,keyI,zh]
theorem z1T(a b c d:Int):HT.lexLt [a,b] [c,d]=true↔a<c\/(a=c/\b<d):=by
 simp[HT.lexLt];by_cases e:a=c
 ·simp[e];omega
 ·simp[e]
theorem z0s{ps:List (Int×Int)}(nd:ps.Nodup)(hl:ps.length<64):∃qs:List (Int×Int),zV [.list (ps.map zG)]=some (.list (qs.map zG))/\(∀q,q∈qs↔q∈ps)/\qs.Pairwise Lx/\qs.length=ps.length:=by
 have hs:zk (ps.map zG)=true:=by
  unfold zk;rw[Bool.and_eq_true,Bool.or_eq_true];refine⟨.inr (List.all_eq_true.mpr fun d hd=>?_),by simpa using hl⟩;obtain⟨q,_,rfl⟩:=List.mem_map.mp hd;simp[zG,xp,zh]
 have perm:=xD (key:=keyI) (ps.map zG);have back:∀l:List PyData,(∀d∈l,∃q∈ps,d=zG q)->∃qs:List (Int×Int),l=qs.map zG:=by
  intro l
  induction l with
  | nil=>intro _;exact⟨[],rfl⟩
  | cons d r ih=>
   intro h;obtain⟨q,_,rfl⟩:=h d List.mem_cons_self;obtain⟨qs,rfl⟩:=ih fun x hx=>h x (List.mem_cons_of_mem _ hx);exact⟨q::qs,rfl⟩
 obtain⟨qs,e⟩:=back (wG keyI (ps.map zG)) fun d hd=>by
  obtain⟨q,hq,rfl⟩:=List.mem_map.mp (perm.mem_iff.mp hd);exact⟨q,hq,rfl⟩
 have inj:∀a b:Int×Int,zG a=zG b->a=b:=fun a b h=>by
  obtain⟨a1,a2⟩:=a;obtain⟨b1,b2⟩:=b;simp[zG]at h;simp[h]
 have pw:=yN (key:=keyI) (ps.map zG);rw[e]at perm pw;have ndp:(ps.map zG).Nodup:=List.pairwise_map.mpr (nd.imp fun h z=>h (inj _ _ z));have ndq:=List.pairwise_map.mp (perm.nodup_iff.mpr ndp);have pwq:=List.pairwise_map.mp pw;refine⟨qs,?_,fun q=>?_,?_,by simpa using perm.length_eq⟩
 ·simp only[zV,x6];rw[if_pos hs,e]
 ·have:=perm.mem_iff (a:=zG q);constructor
  ·intro h;obtain⟨z,hz,ez⟩:=List.mem_map.mp (this.mp (List.mem_map.mpr ⟨q,h,rfl⟩));exact inj _ _ ez▸hz
  ·intro h;obtain⟨z,hz,ez⟩:=List.mem_map.mp (this.mpr (List.mem_map.mpr ⟨q,h,rfl⟩));exact inj _ _ ez▸hz
 ·refine(ndq.and pwq).imp fun{a b} h=>?_;obtain⟨h1,h2⟩:=h;have hn:a≠b:=fun z=>h1 (by rw[z]);rw[ur,ur]at h2;have h3:¬(b.1<a.1\/(b.1=a.1/\b.2<a.2)):=fun z=>by
   rw[(z1T b.1 b.2 a.1 a.2).mpr z]at h2;cases h2
  have h4:¬(a.1=b.1/\a.2=b.2):=fun z=>hn (Prod.ext z.1 z.2);unfold Lx;omega
noncomputable def sg(nm:List Int)(x:Int):Int:=nm.getD x.toNat 0
noncomputable def tie2(a b:Int):Int×Int:=if a<b then(a,b)else(b,a)
theorem z4c{a b:Int}(h:a≠b):zV [.list [.int a,.int b]]=some (.list [.int (tie2 a b).1,.int (tie2 a b).2]):=by
 obtain⟨r,e,p,st⟩:=xc (l:=[a,b]) (by simp);have er:r=[(tie2 a b).1,(tie2 a b).2]:=wO (z05 st p (by simp[h])) (by unfold tie2;split<;>simp<;>omega) fun x=>by
  rw[p.mem_iff];unfold tie2;split<;>simp[or_comm]
 rw[er]at e;exact e
theorem wm(a b:Int):(a<b/\tie2 a b=(a,b))\/(¬a<b/\tie2 a b=(b,a)):=by
 unfold tie2;by_cases h:a<b
 ·exact .inl ⟨h,if_pos h⟩
 ·exact .inr ⟨h,if_neg h⟩
theorem z7X{α:Type}[DecidableEq α]:∀{G S:List α},G.Nodup->(∀s∈G,s∈S)->G.length<=S.length
 | [],_,_,_=>Nat.zero_le _
 | x::G,S,nd,h=>by
  obtain⟨h1,h2⟩:=List.nodup_cons.mp nd;have hx:=h x List.mem_cons_self
  have:=z7X (G:=G) (S:=S.erase x) h2 fun s hs=>by
   have:s≠x:=fun z=>h1 (z▸hs);exact(List.mem_erase_of_ne this).mpr (h s (List.mem_cons_of_mem _ hs))
  rw[List.length_erase_of_mem hx]at this
  have:=List.length_pos_of_mem hx;simp;omega
noncomputable def all28:List (Int×Int):=(upto 8).flatMap fun a=>((upto 8).filter fun b=>decide (a<b)).map fun b=>(a,b)
theorem z3N:all28.length=28:=by decide
theorem Lx.nd{l:List (Int×Int)}(h:l.Pairwise Lx):l.Nodup:=h.imp fun{a b} h e=>by subst e;unfold Lx at h;omega
theorem z7N{l:List (Int×Int)}(nd:l.Nodup)(h:∀q∈l,0<=q.1/\q.1<q.2/\q.2<8):l.length<=28:=by
 rw[<-z3N];refine z7X nd fun q hq=>?_
 have:=h q hq;unfold all28;rw[List.mem_flatMap];exact⟨q.1,mem_upto.mpr (by omega),List.mem_map.mpr ⟨q.2,List.mem_filter.mpr ⟨mem_upto.mpr (by omega),by simpa using this.2.1⟩,rfl⟩⟩
theorem z6C{a b:List (Int×Int)}(ha:a.Pairwise Lx)(hb:b.Pairwise Lx)(h:∀x,x∈a↔x∈b):a=b:=
 List.Perm.eq_of_pairwise (le:=Lx) (fun x y _ _ h1 h2=>by unfold Lx at h1 h2;omega) ha hb ((List.perm_ext_iff_of_nodup (Lx.nd ha) (Lx.nd hb)).mpr h)
section
variable{m:Int}{nm:List Int}{ps qs:List (Int×Int)}
theorem z4b(W:WebOk m ps):ps.length<=28:=z7N (Lx.nd W.srt) fun q hq=>by have:=W.inr q hq;have:=W.hi;omega
theorem z0R(W:WebOk m ps){a b:Int}:(a,b)∈ps↔a<b/\Edg ps a b:=by
 constructor
 ·intro h;exact⟨(W.inr _ h).2.1,.inl h⟩
 ·rintro⟨h,e | e⟩
  ·exact e
  ·have:=(W.inr _ e).2.1;simp at this;omega
structure Ren(m:Int)(nm:List Int)(ps qs:List (Int×Int)):Prop where
 web:WebOk m qs
 iff:∀x y,0<=x/\x<m->0<=y/\y<m->(Edg qs (sg nm x) (sg nm y)↔Edg ps x y)
theorem z1V(h0:0<=m)(hp:nm.Perm (upto m.toNat)){y:Int}(hy:0<=y/\y<m):0<=sg nm y/\sg nm y<m:=z8h h0 hp hy
theorem w9(h0:0<=m)(hp:nm.Perm (upto m.toNat)){y z:Int}(hy:0<=y/\y<m)(hz:0<=z/\z<m)(e:sg nm y=sg nm z):y=z:=z7W h0 hp hy hz e
theorem ym(h0:0<=m)(hp:nm.Perm (upto m.toNat)){a:Int}(ha:0<=a/\a<m):∃y,(0<=y/\y<m)/\sg nm y=a:=by
 have hl:=uI hp
 have:a∈nm:=hp.mem_iff.mpr (upto_mem.mpr (by omega));obtain⟨i,hi,e⟩:=List.getElem_of_mem this;refine⟨(i:Int),by omega,?_⟩;unfold sg;rw[Int.toNat_natCast,List.getD_eq_getElem?_getD,List.getElem?_eq_getElem hi,e];rfl
theorem Ren.uniq(h0:0<=m)(hp:nm.Perm (upto m.toNat)){q2:List (Int×Int)}(a:Ren m nm ps qs)(b:Ren m nm ps q2):qs=q2:=by
 have key:∀{u v:List (Int×Int)},Ren m nm ps u->Ren m nm ps v->∀x∈u,x∈v:=fun{u v} hu hv x hx=>by
  obtain⟨p,q⟩:=x;have hr:=hu.web.inr _ hx;simp only at hr;obtain⟨y,hy,rfl⟩:=ym h0 hp (a:=p) (by omega);obtain⟨z,hz,rfl⟩:=ym h0 hp (a:=q) (by omega);exact(z0R hv.web).mpr ⟨hr.2.1,(hv.iff y z hy hz).mpr ((hu.iff y z hy hz).mp (.inl hx))⟩
 exact z6C a.web.srt b.web.srt fun x=>⟨key a b x,key b a x⟩
end
theorem z11{m:Int}{nm:List Int}{ps:List (Int×Int)}{n:Nat}{P:D->Nat->Prop}(W:WebOk m ps)(hp:nm.Perm (upto m.toNat))(h:∀qs,Ren m nm ps qs->P (.p (webD m qs)) n):Ok (z2j [.p (webD m ps),.p (plD nm)]) n P:=by
 have hlo:=W.lo;have hhi:=W.hi;have hl:=uI hp;have hfew:=z4b W;unfold z2j z5C;refine t_fn rfl ?_;walk_at "e";refine xq W ?_;rw[zw];walk_at "e";rw[show PyData.int m=.int ((m.toNat:Nat):Int) by congr 1;omega];refine z1t (by omega) hp ?_;rw[show PyData.int ((m.toNat:Nat):Int)=.int m by congr 1;omega];walk_at "e";rw[z1o (by rw[List.length_map];omega)];walk_at "e";refine zf (J:=zG) (J':=zG) (f:=fun q=>tie2 (sg nm q.1) (sg nm q.2)) (fun q hq=>?_) ?_
 ·have hr:=W.inr q hq;unfold zG;walk_at "e";rw[show fIx (plD nm) (.int q.1)=some (.int (sg nm q.1)) from wT (by omega) (by omega)];walk_at "e";rw[show fIx (plD nm) (.int q.2)=some (.int (sg nm q.2)) from wT (by omega) (by omega)];walk_at "e";rw[z4c fun z=>by have:=w9 (m:=m) (by omega) hp (by omega) (by omega) z;omega];walk_at "e";exact⟨rfl,by trivial⟩
 try walk_at "e"
 have h0:0<=m:=by omega
 have nd:(ps.map fun q=>tie2 (sg nm q.1) (sg nm q.2)).Nodup:=by
  refine List.pairwise_map.mpr ((Lx.nd W.srt).imp_of_mem fun{a b} ha hb hne e=>hne ?_);have ra:=W.inr a ha;have rb:=W.inr b hb;have I:=fun{y z:Int} (hy:0<=y/\y<m) (hz:0<=z/\z<m)=>w9 (nm:=nm) h0 hp hy hz;rcases wm (sg nm a.1) (sg nm a.2)with ⟨_,e1⟩ | ⟨_,e1⟩<;>rcases wm (sg nm b.1) (sg nm b.2)with ⟨_,e2⟩ | ⟨_,e2⟩<;>rw[e1,e2]at e<;>obtain⟨z1,z2⟩:=Prod.mk.inj e
  ·exact Prod.ext (I (by omega) (by omega) z1) (I (by omega) (by omega) z2)
  ·have:=I (by omega) (by omega) z1;have:=I (by omega) (by omega) z2;omega
  ·have:=I (by omega) (by omega) z1;have:=I (by omega) (by omega) z2;omega
  ·exact Prod.ext (I (by omega) (by omega) z2) (I (by omega) (by omega) z1)
 obtain⟨qs,e1,e2,e3,e4⟩:=z0s nd (by rw[List.length_map];omega);rw[e1];walk_at "e";rw[<-zw];have mem:∀{u v:Int},(u,v)∈qs->∃q∈ps,(u=sg nm q.1/\v=sg nm q.2\/u=sg nm q.2/\v=sg nm q.1)/\u<v:=fun{u v} hu=>by
  obtain⟨q,hq,eq⟩:=List.mem_map.mp ((e2 _).mp hu);have hr:=W.inr q hq;have hne:sg nm q.1≠sg nm q.2:=fun z=>by have:=w9 (nm:=nm) h0 hp (by omega) (by omega) z;omega
  rcases wm (sg nm q.1) (sg nm q.2)with ⟨z,e1⟩ | ⟨z,e1⟩<;>rw[e1]at eq<;>obtain⟨z1,z2⟩:=Prod.mk.inj eq
  ·exact⟨q,hq,.inl ⟨z1.symm,z2.symm⟩,by omega⟩
  ·exact⟨q,hq,.inr ⟨z1.symm,z2.symm⟩,by omega⟩
 refine h qs ⟨⟨hlo,hhi,fun q hq=>?_,e3,by rw[e4,List.length_map];omega⟩,fun x y hx hy=>?_⟩
 ·obtain⟨z,hz,hz2,hz3⟩:=mem (u:=q.1) (v:=q.2) hq;have hr:=W.inr z hz;have s1:=z1V (nm:=nm) h0 hp (y:=z.1) (by omega);have s2:=z1V (nm:=nm) h0 hp (y:=z.2) (by omega);omega
 ·have I:=fun{y z:Int} (hy:0<=y/\y<m) (hz:0<=z/\z<m)=>w9 (nm:=nm) h0 hp hy hz;have fw:∀{x y:Int},0<=x/\x<m->0<=y/\y<m->(sg nm x,sg nm y)∈qs->Edg ps x y:=fun{x y} hx hy hu=>by
   obtain⟨q,hq,ho,_⟩:=mem hu;have hr:=W.inr q hq;rcases ho with ⟨z1,z2⟩ | ⟨z1,z2⟩
   ·rw[I hx (by omega) z1,I hy (by omega) z2];exact .inl hq
   ·rw[I hx (by omega) z1,I hy (by omega) z2];exact .inr hq
  have bw:∀{x y:Int},(x,y)∈ps->Edg qs (sg nm x) (sg nm y):=fun{x y} hu=>by
   have hm:tie2 (sg nm x) (sg nm y)∈qs:=(e2 _).mpr (List.mem_map.mpr ⟨(x,y),hu,rfl⟩);rcases wm (sg nm x) (sg nm y)with ⟨_,e1⟩ | ⟨_,e1⟩<;>rw[e1]at hm
   ·exact .inl hm
   ·exact .inr hm
  constructor
  ·rintro(e | e)
   ·exact fw hx hy e
   ·exact(fw hy hx e).symm
  ·rintro(e | e)
   ·exact bw e
   ·exact(bw e).symm
section
variable{m:Int}{nm:List Int}{ps qs:List (Int×Int)}{pl pm:List Int}
theorem Ren.back(h0:0<=m)(hp:nm.Perm (upto m.toNat))(R:Ren m nm ps qs){a b:Int}(e:Edg qs a b):∃x y,(0<=x/\x<m)/\(0<=y/\y<m)/\a=sg nm x/\b=sg nm y/\Edg ps x y:=by
 obtain⟨ha,hb1,hb2,_⟩:=wc R.web e;obtain⟨x,hx,rfl⟩:=ym h0 hp ha;obtain⟨y,hy,rfl⟩:=ym h0 hp ⟨hb1,hb2⟩;exact⟨x,y,hx,hy,rfl,rfl,(R.iff x y hx hy).mp e⟩
theorem Ren.walk(W:WebOk m ps)(R:Ren m nm ps qs):∀{k:Nat} {p g:Int},0<=p/\p<m->Walk (Edg ps) k p g->Walk (Edg qs) k (sg nm p) (sg nm g)
 | _,_,_,_,.nil p=>.nil _
 | _,_,_,hp,.cons e w=>by
  obtain⟨_,h1,h2,_⟩:=wc W e;exact .cons ((R.iff _ _ hp ⟨h1,h2⟩).mpr e) (Ren.walk W R ⟨h1,h2⟩ w)
theorem Ren.walk'(h0:0<=m)(hp:nm.Perm (upto m.toNat))(R:Ren m nm ps qs):∀{k:Nat} {a b:Int},Walk (Edg qs) k a b->∀p,0<=p/\p<m->a=sg nm p->∃g,(0<=g/\g<m)/\b=sg nm g/\Walk (Edg ps) k p g
 | _,_,_,.nil a,p,h,e=>⟨p,h,e,.nil p⟩
 | _,_,_,.cons e w,p,h,ea=>by
  obtain⟨x,y,hx,hy,e1,e2,e3⟩:=R.back h0 hp e
  have:p=x:=w9 h0 hp h hx (ea.symm.trans e1);subst this;obtain⟨g,hg,eg,wg⟩:=Ren.walk' h0 hp R w y hy e2;exact⟨g,hg,eg,.cons e3 wg⟩
theorem Ren.walk_iff(h0:0<=m)(hp:nm.Perm (upto m.toNat))(W:WebOk m ps)(R:Ren m nm ps qs){k:Nat}{p g:Int}(h1:0<=p/\p<m)(h2:0<=g/\g<m):Walk (Edg qs) k (sg nm p) (sg nm g)↔Walk (Edg ps) k p g:=by
 refine⟨fun w=>?_,R.walk W h1⟩;obtain⟨g',hg,e,w'⟩:=R.walk' h0 hp w p h1 rfl;rw[w9 h0 hp h2 hg e];exact w'
theorem z5A(h0:0<=m)(hp:nm.Perm (upto m.toNat))(W:WebOk m ps)(R:Ren m nm ps qs)(L:PlOk m pl)(L':PlOk m pm)(pp:∀x,x∈pm↔x∈pl.map (sg nm))(k:Nat):both m qs pm k=[]↔both m ps pl k=[]:=by
 have fw:∀g,(0<=g/\g<m)->(sg nm g∈both m qs pm k↔g∈both m ps pl k):=fun g hg=>by
  rw[xG R.web L',xG W L]
  have:=z1V h0 hp hg;constructor
  ·rintro⟨_,h⟩;exact⟨hg,fun p hpl=>(R.walk_iff h0 hp W (L.inr p hpl) hg).mp (h _ ((pp _).mpr (List.mem_map.mpr ⟨p,hpl,rfl⟩)))⟩
  ·rintro⟨_,h⟩;refine⟨this,fun p' hp'=>?_⟩;obtain⟨p,hpl,rfl⟩:=List.mem_map.mp ((pp _).mp hp');exact(R.walk_iff h0 hp W (L.inr p hpl) hg).mpr (h p hpl)
 constructor
 ·intro h;refine List.eq_nil_iff_forall_not_mem.mpr fun g hg=>?_
  have:=(fw g ((xG W L).mp hg).1).mpr hg;rw[h]at this;cases this
 ·intro h;refine List.eq_nil_iff_forall_not_mem.mpr fun a ha=>?_;obtain⟨g,hg,rfl⟩:=ym h0 hp ((xG R.web L').mp ha).1
  have:=(fw g hg).mp ha;rw[h]at this;cases this
theorem ud(h0:0<=m)(hp:nm.Perm (upto m.toNat))(W:WebOk m ps)(R:Ren m nm ps qs)(L:PlOk m pl)(L':PlOk m pm)(pp:∀x,x∈pm↔x∈pl.map (sg nm)){r r':Option (Nat×Int)}(S:z35 m ps pl r)(S':z35 m qs pm r'):(r=none/\r'=none)\/∃k g g',r=some (k,g)/\r'=some (k,g'):=by
 have B:=fun k=>z5A h0 hp W R L L' pp k;cases r with
 | none=>
  cases r' with
  | none=>exact .inl ⟨rfl,rfl⟩
  | some z=>
   obtain⟨k,g⟩:=z;obtain⟨⟨r,e⟩,_⟩:=S'
   have:=(B k).mpr (S k);rw[e]at this;cases this
 | some z=>
  obtain⟨k,g⟩:=z;obtain⟨⟨r,e⟩,lt⟩:=S;cases r' with
  | none=>
   have:=(B k).mp (S' k);rw[e]at this;cases this
  | some z=>
   obtain⟨k',g'⟩:=z;obtain⟨⟨r',e'⟩,lt'⟩:=S'
   have:k=k':=by
    rcases Nat.lt_trichotomy k k' with h | h | h
    ·have:=(B k).mp (lt' k h);rw[e]at this;cases this
    ·exact h
    ·have:=(B k').mpr (lt k' h);rw[e']at this;cases this
   subst this;exact .inr ⟨k,g,g',rfl,rfl⟩
open Classical in
noncomputable def dst0(E:Int->Int->Prop)(p g:Int):Option Int:=if h:∃d:Nat,Dist E p g d then some (h.choose:Int)else none
theorem z4I{E:Int->Int->Prop}{p g:Int}{a b:Nat}(h:Dist E p g a)(k:Dist E p g b):a=b:=Nat.le_antisymm (h.2 _ k.1) (k.2 _ h.1)
theorem z74{E:Int->Int->Prop}{p g:Int}{d:Nat}(h:Dist E p g d):dst0 E p g=some (d:Int):=by
 unfold dst0;have hx:∃d:Nat,Dist E p g d:=⟨d,h⟩;rw[dif_pos hx,z4I hx.choose_spec h]
theorem z75{E:Int->Int->Prop}{p g:Int}(h:∀d,¬Walk E d p g):dst0 E p g=none:=by
 unfold dst0;rw[dif_neg fun⟨d,hd⟩=>h d hd.1]
theorem z60{E:Int->Int->Prop}{N:Nat}{p g:Int}{f:List (Int×Int)}(F:Found E N p f):lk f g=dst0 E p g:=by
 cases e:lk f g with
 | none=>
  have:=z49 e;rw[z75 (F.none g fun d hd=>this _ hd rfl)]
 | some d=>
  obtain⟨h1,h2,h3⟩:=F.some g d (z1s e);rw[z74 h3,show((d.toNat:Nat):Int)=d by omega]
theorem z4d{E:Int->Int->Prop}{N:Nat}{fs:List (List (Int×Int))}(F:Fars E N pl fs)(g:Int):fs.map (fun f=>lk f g)=pl.map fun p=>dst0 E p g:=by
 have hl:=F.len;refine List.ext_getElem (by simp[hl]) fun i h1 h2=>?_;rw[List.length_map]at h1 h2;rw[List.getElem_map,List.getElem_map];exact z60 (F.each i _ _ (List.getElem?_eq_getElem h1) (List.getElem?_eq_getElem h2)).1
theorem Ren.dst_eq(h0:0<=m)(hp:nm.Perm (upto m.toNat))(W:WebOk m ps)(R:Ren m nm ps qs){p g:Int}(h1:0<=p/\p<m)(h2:0<=g/\g<m):dst0 (Edg qs) (sg nm p) (sg nm g)=dst0 (Edg ps) p g:=by
 have e:Dist (Edg qs) (sg nm p) (sg nm g)=Dist (Edg ps) p g:=by
  funext d;unfold Dist;rw[R.walk_iff h0 hp W h1 h2]
  have:(∀d',Walk (Edg qs) d' (sg nm p) (sg nm g)->d<=d')↔∀d',Walk (Edg ps) d' p g->d<=d':=forall_congr' fun d'=>by rw[R.walk_iff h0 hp W h1 h2]
  rw[this]
 unfold dst0;rw[e]
theorem z4t(h0:0<=m)(hp:nm.Perm (upto m.toNat))(W:WebOk m ps)(R:Ren m nm ps qs)(hin:∀p∈pl,0<=p/\p<m)(pp:pm.Perm (pl.map (sg nm))){fs fs':List (List (Int×Int))}(F:Fars (Edg ps) m.toNat pl fs)(F':Fars (Edg qs) m.toNat pm fs'){g:Int}(hg:0<=g/\g<m):(fs'.map fun f=>lk f (sg nm g)).Perm (fs.map fun f=>lk f g):=by
 rw[z4d F,z4d F'];refine(pp.map _).trans ?_;rw[List.map_map];rw[show pl.map ((fun p=>dst0 (Edg qs) p (sg nm g))∘sg nm)=pl.map fun p=>dst0 (Edg ps) p g from List.map_congr_left fun p hpl=>R.dst_eq h0 hp W (hin p hpl) hg]
structure Same(m:Int)(nm:List Int)(fs fs':List (List (Int×Int))):Prop where
 com:∀g,0<=g/\g<m->(sg nm g∈common m.toNat fs'↔g∈common m.toNat fs)
 dis:∀g,0<=g/\g<m->(zq fs' (sg nm g)).Perm (zq fs g)
theorem wv{fs:List (List (Int×Int))}(h0:0<=m){g:Int}(h:g∈common m.toNat fs):0<=g/\g<m:=by
 have:=mem_upto.mp (List.mem_filter.mp h).1;omega
theorem z1a(h0:0<=m)(hp:nm.Perm (upto m.toNat))(W:WebOk m ps)(R:Ren m nm ps qs)(hin:∀p∈pl,0<=p/\p<m)(pp:pm.Perm (pl.map (sg nm))){fs fs':List (List (Int×Int))}(F:Fars (Edg ps) m.toNat pl fs)(F':Fars (Edg qs) m.toNat pm fs'):Same m nm fs fs':=by
 have K:=fun{g:Int} (hg:0<=g/\g<m)=>z4t h0 hp W R hin pp F F' hg;refine⟨fun g hg=>?_,fun g hg=>?_⟩
 ·have hs:=z1V h0 hp hg
  have:(fs'.all fun f=>(lk f (sg nm g)).isSome)=fs.all fun f=>(lk f g).isSome:=by
   have:=(K hg).all_eq (f:=Option.isSome)
   rwa [List.all_map,List.all_map]at this
  unfold common;rw[List.mem_filter,List.mem_filter,this,mem_upto,mem_upto];exact⟨fun h=>⟨by omega,h.2⟩,fun h=>⟨by omega,h.2⟩⟩
 ·have:=(K hg).map fun o=>o.getD 0
  rwa [List.map_map,List.map_map]at this
theorem z1G(h0:0<=m)(hp:nm.Perm (upto m.toNat)){hh:List Int->Int}(hi:∀a b:List Int,a.Perm b->hh a=hh b){fs fs':List (List (Int×Int))}(S:Same m nm fs fs'):(wy (yA hh m.toNat fs)=.none/\wy (yA hh m.toNat fs')=.none)\/∃a b c,wy (yA hh m.toNat fs)=zG (a,b)/\wy (yA hh m.toNat fs')=zG (a,c):=by
 have fw:∀q∈yA hh m.toNat fs,∃c,(q.1,c)∈yA hh m.toNat fs':=fun q hq=>by
  obtain⟨g,hg,rfl⟩:=List.mem_map.mp hq;have hr:=wv h0 hg;exact⟨sg nm g,List.mem_map.mpr ⟨sg nm g,(S.com g hr).mpr hg,by rw[hi _ _ (S.dis g hr)]⟩⟩
 have bw:∀q∈yA hh m.toNat fs',∃c,(q.1,c)∈yA hh m.toNat fs:=fun q hq=>by
  obtain⟨a,ha,rfl⟩:=List.mem_map.mp hq;obtain⟨g,hg,rfl⟩:=ym h0 hp (wv h0 ha);exact⟨g,List.mem_map.mpr ⟨g,(S.com g hg).mp ha,by rw[hi _ _ (S.dis g hg)]⟩⟩
 by_cases he:yA hh m.toNat fs=[]
 ·have he':yA hh m.toNat fs'=[]:=List.eq_nil_iff_forall_not_mem.mpr fun q hq=>by
   obtain⟨c,hc⟩:=bw q hq;rw[he]at hc;cases hc
  rw[he,he'];exact .inl ⟨rfl,rfl⟩
 ·have he':yA hh m.toNat fs'≠[]:=fun z=>he (List.eq_nil_iff_forall_not_mem.mpr fun q hq=>by
   obtain⟨c,hc⟩:=fw q hq;rw[z]at hc;cases hc)
  obtain⟨q,e1,m1,l1⟩:=z26 he;obtain⟨q',e2,m2,l2⟩:=z26 he';obtain⟨c,hc⟩:=fw q m1;obtain⟨c',hc'⟩:=bw q' m2;have k1:=l2 _ hc;have k2:=l1 _ hc'
  have:q.1=q'.1:=by unfold Lx at k1 k2;simp at k1 k2;omega
  exact .inr ⟨q.1,q.2,q'.2,e1,by rw[this];exact e2⟩
theorem xh(a b:List Int)(h:a.Perm b):maxI a=maxI b:=by
 by_cases e:a=[]
 ·subst e;rw[h.nil_eq]
 ·have e':b≠[]:=fun z=>e (by subst z;exact h.eq_nil);obtain⟨m1,l1⟩:=z2G e;obtain⟨m2,l2⟩:=z2G e'
  have:=l1 _ (h.mem_iff.mpr m2)
  have:=l2 _ (h.mem_iff.mp m1);omega
theorem z5t(a b:List Int)(h:a.Perm b):a.sum=b.sum:=by
 induction h with
 | nil=>rfl
 | cons x _ ih=>rw[List.sum_cons,List.sum_cons,ih]
 | swap x y l=>simp only[List.sum_cons];omega
 | trans _ _ h1 h2=>exact h1.trans h2
theorem z51(h0:0<=m)(hp:nm.Perm (upto m.toNat)){fs fs':List (List (Int×Int))}(S:Same m nm fs fs')(x:Int):x∈midL m.toNat fs'↔x∈(midL m.toNat fs).map (sg nm):=by
 have em:minI ((common m.toNat fs').map fun g=>maxI (zq fs' g))=minI ((common m.toNat fs).map fun g=>maxI (zq fs g)):=by
  have mem:∀v,v∈(common m.toNat fs').map (fun g=>maxI (zq fs' g))↔v∈(common m.toNat fs).map (fun g=>maxI (zq fs g)):=fun v=>by
   constructor
   ·intro h;obtain⟨a,ha,rfl⟩:=List.mem_map.mp h;obtain⟨g,hg,rfl⟩:=ym h0 hp (wv h0 ha);exact List.mem_map.mpr ⟨g,(S.com g hg).mp ha,by rw[xh _ _ (S.dis g hg)]⟩
   ·intro h;obtain⟨g,hg,rfl⟩:=List.mem_map.mp h;have hr:=wv h0 hg;exact List.mem_map.mpr ⟨sg nm g,(S.com g hr).mpr hg,by rw[xh _ _ (S.dis g hr)]⟩
  generalize(common m.toNat fs').map (fun g=>maxI (zq fs' g))=A at mem;generalize(common m.toNat fs).map (fun g=>maxI (zq fs g))=B at mem;by_cases e:A=[]
  ·have:B=[]:=List.eq_nil_iff_forall_not_mem.mpr fun v hv=>by have:=(mem v).mpr hv;rw[e]at this;cases this
   rw[e,this]
  ·have e':B≠[]:=fun z=>e (List.eq_nil_iff_forall_not_mem.mpr fun v hv=>by have:=(mem v).mp hv;rw[z]at this;cases this);obtain⟨m1,l1⟩:=z2S e;obtain⟨m2,l2⟩:=z2S e'
   have:=l1 _ ((mem _).mpr m2)
   have:=l2 _ ((mem _).mp m1);omega
 unfold midL;rw[em,List.mem_filter,List.mem_map];constructor
 ·rintro⟨hx,hv⟩;obtain⟨g,hg,rfl⟩:=ym h0 hp (wv h0 hx);exact⟨g,List.mem_filter.mpr ⟨(S.com g hg).mp hx,by rw[<-xh _ _ (S.dis g hg)];exact hv⟩,rfl⟩
 ·rintro⟨g,hg,rfl⟩;obtain⟨h1,h2⟩:=List.mem_filter.mp hg;have hr:=wv h0 h1;exact⟨(S.com g hr).mpr h1,by rw[xh _ _ (S.dis g hr)];exact h2⟩
end
theorem z62(g:List Bool->Bool)(l:List Bool):zn g [.list (l.map PyData.bool)]=some (.bool (g l)):=by
 have:=zg (fun b:Bool=>b) l;rw[List.map_id']at this;simp only[zn];rw[show l.map PyData.bool=l.map fun x=>PyData.bool ((fun b:Bool=>b) x) from rfl,this];rfl
theorem z7O{m:Int}{ps:List (Int×Int)}{pl:List Int}{n:Nat}{P:D->Nat->Prop}(W:WebOk m ps)(L:PlOk m pl)(h1:∀r,z35 m ps pl (some r)->P (.p .none) n)(h2:z35 m ps pl none->∀l,P (.p (.tuple l)) n):Ok (z1b [.p (webD m ps),.p (plD pl)]) n P:=by
 have hlo:=W.lo;have hhi:=W.hi;have hll:=L.len;unfold z1b z5x;refine t_fn rfl ?_;walk_at "e";refine uC W L fun r S _=>?_;walk_at "e";cases r with
 | some r=>
  rw[show fIs true (rsD (some r)) .none=some (.bool true) from rfl];walk_at "e";exact h1 r S
 | none=>
 rw[show fIs true (rsD none) .none=some (.bool false) from rfl];walk_at "e";refine z1x W ?_;walk_at "e";obtain⟨p,r,rfl⟩:=List.exists_cons_of_ne_nil L.ne;rw[show fIx (plD (p::r)) (.int 0)=some (.int p) from fIx_t0 _ _];walk_at "e";have hps:∀q∈ps,0<=q.1/\q.1<q.2/\q.2<((m.toNat:Nat):Int):=fun q hq=>by have:=W.inr q hq;omega
 have hpl:=W.len;have hTl:∀l∈zH m.toNat ps,l.length<1000:=fun l hl=>by
  have:=xi ps (List.replicate m.toNat []) 0 (fun l hl=>by rw[(List.mem_replicate.mp hl).2];simp) l hl;omega
 refine z1D (E:=Edg ps) (N:=m.toNat) (by omega) (yU _ _) hTl (fun i x hi=>yr hps hi) (fun a b e=>by have:=wc W e;omega) (by have:=L.inr p List.mem_cons_self;omega) fun f F hf=>?_;have hne:=z3i hf;walk_at "e";rw[z1o (by rw[List.length_map];omega)];walk_at "e";refine zf (J:=PyData.int) (J':=PyData.bool) (f:=fun x=>(lk (fJ f) x).isSome) (fun x hx=>?_) ?_
 ·walk_at "e";rw[z4i hne];walk_at "e";exact⟨rfl,by trivial⟩
 try walk_at "e"
 rw[show PyData.list (PyData.bool (lk (fJ f) p).isSome::(r.map fun x=>(lk (fJ f) x).isSome).map PyData.bool)=.list (((p::r).map fun x=>(lk (fJ f) x).isSome).map PyData.bool) from rfl,z62];walk_at "e";by_cases ca:(((lk (fJ f) p).isSome::r.map fun x=>(lk (fJ f) x).isSome).all id)=true
 ·rw[if_pos ca];rw[zw];walk_at "e";rw[zb (by omega),zX m (by omega)];walk_at "e";refine zf (J:=PyData.int) (J':=PyData.int) (f:=fun x=>if (lk f x).isSome=true then(lk f x).getD 0 % 2 else 2) (fun x hx=>?_) ?_
  ·walk_at "e";rw[z4i hne,z0I];walk_at "e";cases e:lk f x with
   | none=>
    walk_at "e";exact⟨rfl,by trivial⟩
   | some d=>
    walk_at "e";rw[z2v hne,z0I,e];walk_at "e";rw[xo (by decide)];walk_at "e";exact⟨rfl,by trivial⟩
  try walk_at "e"
  exact h2 S _
 ·rw[if_neg ca];rw[zw];walk_at "e";rw[zb (by omega),zX m (by omega)];walk_at "e";refine zf (J:=PyData.int) (J':=PyData.int) (f:=fun x=>if (lk f x).isSome=true then 2 else 3) (fun x hx=>?_) ?_
  ·walk_at "e";rw[z4i hne,z0I];walk_at "e";cases e:lk f x with
   | none=>
    walk_at "e";exact⟨rfl,by trivial⟩
   | some d=>
    walk_at "e";exact⟨rfl,by trivial⟩
  try walk_at "e"
  exact h2 S _
theorem z1c{m:Int}{nm:List Int}{x:Int}(hp:nm.Perm (upto m.toNat))(hl:nm.length<=1000)(hx:x∈nm):fIdx (nm.map PyData.int) (.int x)=some (.int (nm.idxOf x:Nat)):=by
 have hi:nm.idxOf x<nm.length:=List.idxOf_lt_length_of_mem hx;have hg:nm[nm.idxOf x]=x:=List.getElem_idxOf hi;unfold fIdx;rw[if_pos ⟨rfl,yL _,by simp[PyData.depth],by rw[List.length_map];exact hl⟩];rw[show(nm.map PyData.int).findIdx? (fun z=>PyData.eqv z (.int x))=some (nm.idxOf x) from ?_]
 ·rfl
 ·rw[List.findIdx?_eq_some_iff_getElem];refine⟨by simpa using hi,?_,fun j hj=>?_⟩
  ·rw[List.getElem_map,yV,hg];exact decide_eq_true rfl
  ·rw[List.getElem_map,yV];intro z
   have:=(List.getElem_inj (z6q hp)).mp ((of_decide_eq_true z).trans hg.symm);omega
theorem wC:∀l:List (Int×Int),PyData.eqvAll (l.map zG) (l.map zG)=true
 | []=>by simp[PyData.eqvAll]
 | a::l=>by simp[PyData.eqvAll,wC l,zG,PyData.eqv]
theorem yO:∀l:List (Int×Int),PyData.canLayAll0 (l.map zG)=true
 | []=>rfl
 | a::l=>by simp[PyData.canLayAll0,yO l,zG,PyData.canLay0]
theorem uP:∀l:List (Int×Int),PyData.depthAll (l.map zG)<=2
 | []=>by simp[PyData.depthAll]
 | a::l=>by
  have:=uP l;have e:PyData.depth (zG a)<=2:=by simp[zG,PyData.depth,PyData.depthAll]
  simp only[List.map_cons,PyData.depthAll];omega
theorem z1S(q:Int×Int):∀l:List (Int×Int),((l.map zG).any fun y=>PyData.eqv y (zG q))=decide (q∈l)
 | []=>by simp
 | p::l=>by
  rw[List.map_cons,List.any_cons,z1S q l]
  have:PyData.eqv (zG p) (zG q)=decide (q=p):=by
   obtain⟨a,b⟩:=p;obtain⟨c,d⟩:=q;rw[show PyData.eqv (zG (a,b)) (zG (c,d))=(PyData.eqv (.int a) (.int c) && (PyData.eqv (.int b) (.int d) && true)) by simp[zG,PyData.eqv,PyData.eqvAll],yV,yV];by_cases h1:a=c<;>by_cases h2:b=d<;>simp[h1,h2]<;>intro z<;>first | exact absurd z.symm h1 | exact absurd z.symm h2
  rw[this];simp[Bool.decide_or]
theorem z4L(q:Int×Int)(l:List (Int×Int)):fIn false (.tuple [.int q.1,.int q.2]) (.tuple (l.map zG))=some (.bool (decide (q∈l))):=by
 have:=z1S q l;simp only[fIn];rw[if_pos ⟨by simp[PyData.canLay0,PyData.canLayAll0],yO l,by simp[PyData.depth,PyData.depthAll]⟩,if_neg Bool.false_ne_true];unfold zG at this |-;rw[this]
theorem z4J(m:Int)(ps:List (Int×Int)):fEq true (webD m ps) (webD m ps)=some (.bool false):=by
 have d:=uP ps;unfold fEq webD;rw[if_pos ⟨by simp[PyData.canLay0,PyData.canLayAll0,yO],by simp[PyData.canLay0,PyData.canLayAll0,yO],by simp only[PyData.depth,PyData.depthAll];omega⟩];simp[PyData.eqv,PyData.eqvAll,wC]
section
variable{m:Int}{nm:List Int}{ps qs:List (Int×Int)}
structure Due(m:Int)(nm:List Int)(ps:List (Int×Int))(i j:Int)(acc:List (Int×Int)):Prop where
 srt:acc.Pairwise Lx
 mem:∀a b:Int,(a,b)∈acc↔(0<=a/\a<b/\b<m/\tie2 (nm.idxOf a:Nat) (nm.idxOf b:Nat)∈ps)/\(a<i\/(a=i/\b<j))
theorem Due.few(h8:m<=8){i j:Int}{acc:List (Int×Int)}(h:Due m nm ps i j acc):acc.length<=28:=z7N (Lx.nd h.srt) fun q hq=>by
 have:=((h.mem q.1 q.2).mp hq).1;omega
theorem Due.yes{i j:Int}{acc:List (Int×Int)}(h:Due m nm ps i j acc)(h0:0<=i)(hij:i<j)(hj:j<m)(c:tie2 (nm.idxOf i:Nat) (nm.idxOf j:Nat)∈ps):Due m nm ps i (j+1) (acc++[(i,j)]):=by
 refine⟨List.pairwise_append.mpr ⟨h.srt,by simp,fun a ha b hb=>?_⟩,fun a b=>?_⟩
 ·rw[List.mem_singleton.mp hb]
  have:=((h.mem a.1 a.2).mp ha).2;unfold Lx;simp only;omega
 ·rw[List.mem_append,h.mem,List.mem_singleton];constructor
  ·rintro(⟨h1,h2⟩ | e)
   ·exact⟨h1,by omega⟩
   ·obtain⟨rfl,rfl⟩:=Prod.mk.inj e;exact⟨⟨h0,hij,hj,c⟩,by omega⟩
  ·rintro⟨h1,h2⟩;by_cases z:a=i/\b=j
   ·exact .inr (by rw[z.1,z.2])
   ·exact .inl ⟨h1,by omega⟩
theorem Due.no{i j:Int}{acc:List (Int×Int)}(h:Due m nm ps i j acc)(c:tie2 (nm.idxOf i:Nat) (nm.idxOf j:Nat)∉ps):Due m nm ps i (j+1) acc:=by
 refine⟨h.srt,fun a b=>?_⟩;rw[h.mem];constructor
 ·rintro⟨h1,h2⟩;exact⟨h1,by omega⟩
 ·rintro⟨h1,h2⟩;refine⟨h1,?_⟩;by_cases z:a=i/\b=j
  ·rw[z.1,z.2]at h1;exact absurd h1.2.2.2 c
  ·omega
theorem Due.next{i:Int}{acc:List (Int×Int)}{j:Int}(h:Due m nm ps i j acc)(hj:m<=j):Due m nm ps (i+1) (i+2) acc:=by
 refine⟨h.srt,fun a b=>?_⟩;rw[h.mem];constructor
 ·rintro⟨h1,h2⟩;exact⟨h1,by omega⟩
 ·rintro⟨h1,h2⟩;exact⟨h1,by omega⟩
theorem z6R(W:WebOk m ps)(hp:nm.Perm (upto m.toNat))(R:Ren m nm ps qs){i j:Int}(hi:m<=i){acc:List (Int×Int)}(h:Due m nm ps i j acc):acc=qs:=by
 have hlo:=W.lo;have h0:0<=m:=by omega
 refine z6C h.srt R.web.srt fun x=>?_;obtain⟨a,b⟩:=x;rw[h.mem,z0R R.web];have key:∀{a b:Int},0<=a/\a<m->0<=b/\b<m->(tie2 (nm.idxOf a:Nat) (nm.idxOf b:Nat)∈ps↔Edg qs a b):=fun{a b} ha hb=>by
  obtain⟨x,hx,rfl⟩:=ym h0 hp ha;obtain⟨y,hy,rfl⟩:=ym h0 hp hb;have e1:nm.idxOf (sg nm x)=x.toNat:=z2f h0 hp hx;have e2:nm.idxOf (sg nm y)=y.toNat:=z2f h0 hp hy;rw[R.iff x y hx hy,e1,e2,show((x.toNat:Nat):Int)=x by omega,show((y.toNat:Nat):Int)=y by omega];rcases wm x y with ⟨z,e⟩ | ⟨z,e⟩<;>rw[e]
  ·rw[z0R W];exact⟨fun h=>h.2,fun h=>⟨z,h⟩⟩
  ·rw[z0R W];exact⟨fun h=>h.2.symm,fun h=>⟨by have:=wc W h;omega,h.symm⟩⟩
 constructor
 ·rintro⟨⟨h1,h2,h3,h4⟩,_⟩;exact⟨h2,(key ⟨by omega,by omega⟩ ⟨by omega,by omega⟩).mp h4⟩
 ·rintro⟨h1,h2⟩;obtain⟨r1,r2,r3,_⟩:=wc R.web h2;exact⟨⟨r1.1,h1,r3,(key r1 ⟨r2,r3⟩).mpr h2⟩,by omega⟩
noncomputable def bck(m:Int)(nm:List Int):List Int:=(upto m.toNat).map fun x=>((nm.idxOf x:Nat):Int)
theorem z68(h0:0<=m)(hp:nm.Perm (upto m.toNat)){x:Int}(hx:0<=x/\x<m):sg (bck m nm) (sg nm x)=x:=by
 have hs:=z1V h0 hp hx;have e1:nm.idxOf (sg nm x)=x.toNat:=z2f h0 hp hx;have e2:(upto m.toNat)[(sg nm x).toNat]?=some (sg nm x):=by
  rw[List.getElem?_eq_getElem (by rw[zN];omega),yb];congr 1;omega
 show(bck m nm).getD (sg nm x).toNat 0=x;unfold bck;rw[List.getD_eq_getElem?_getD,List.getElem?_map,e2,Option.map_some,Option.getD_some,e1];omega
theorem z2H(h0:0<=m)(hp:nm.Perm (upto m.toNat)):(bck m nm).Perm (upto m.toNat):=by
 have hl:=uI hp;have nd:(bck m nm).Nodup:=by
  refine List.pairwise_map.mpr ((z0D _).imp_of_mem fun{a b} ha hb hne e=>hne ?_);have ia:=hp.mem_iff.mpr ha;have ib:=hp.mem_iff.mpr hb;have ea:=List.getElem_idxOf (List.idxOf_lt_length_of_mem ia);have eb:=List.getElem_idxOf (List.idxOf_lt_length_of_mem ib);have e':nm.idxOf a=nm.idxOf b:=by omega
  rw[<-ea,<-eb];simp only[e']
 refine(List.perm_ext_iff_of_nodup nd (z0D _)).mpr fun x=>?_;constructor
 ·intro h;obtain⟨a,ha,rfl⟩:=List.mem_map.mp h
  have:=List.idxOf_lt_length_of_mem (hp.mem_iff.mpr ha);exact mem_upto.mpr (by omega)
 ·intro h;have hx:=mem_upto.mp h;have hs:=z1V h0 hp (y:=x) (by omega);have e1:nm.idxOf (sg nm x)=x.toNat:=z2f h0 hp (by omega);exact List.mem_map.mpr ⟨sg nm x,mem_upto.mpr (by omega),by rw[e1];omega⟩
theorem z5M(W:WebOk m ps)(hp:nm.Perm (upto m.toNat))(R:Ren m nm ps qs):Ren m (bck m nm) qs ps:=by
 have hlo:=W.lo;have h0:0<=m:=by omega
 refine⟨W,fun x y hx hy=>?_⟩;obtain⟨u,hu,rfl⟩:=ym h0 hp hx;obtain⟨v,hv,rfl⟩:=ym h0 hp hy;rw[z68 h0 hp hu,z68 h0 hp hv,R.iff u v hu hv]
end
theorem z3b{i j:Nat}{ms:Env'->Mx (List D)}{ρ:Env'}{n:Nat}{P:Out->Nat->Prop}(h:Ok (ms ρ) n fun ds n'=>∃x y,ds=[x,y]/\P (.nx ((ρ.set i (some (Sl.val x))).set j (some (Sl.val y)))) n'):Ok (sPar i j ms ρ) n P:=by
 unfold sPar;refine t_bind (h.imp fun ds n' ⟨x,y,e,q⟩=>?_);subst e;exact t_pure q
theorem xF{i:Nat}{f:Addr}{F:List D->Mx D}{ms:Env'->Mx (List D)}{ρ:Env'}{n:Nat}{P:D->Nat->Prop}(e:ρ[i]?=some (some (Sl.val (.fn f))))(h:Ok (ms ρ) n fun ds n'=>Ok (F ds) n' P):Ok (xP i f F ms ρ) n P:=by
 unfold xP;rw[if_pos (by rw[e];exact decide_eq_true rfl)];exact t_call h
theorem z1e{i:Nat}{a:Addr}{r:List Addr}{s:Env'->Mx Out}{t:List (Env'->Mx Out)}{ρ:Env'}{n:Nat}{P:Out->Nat->Prop}(h:Ok (s (ρ.set i (some (Sl.val (.fn a))))) n fun o n'=>∃ρ',o=.nx ρ'/\Ok (uW i r t ρ') n' P):Ok (uW i (a::r) (s::t) ρ) n P:=by
 simp only[uW];refine t_bind (h.imp fun o n' ⟨ρ',e,q⟩=>?_);subst e;exact q
theorem mul1(x:PyData):z3U (.list [x]) (.int 1)=some (.list [x]):=by
 simp only[z3U];rw[if_pos ⟨by decide,by decide,by unfold lim;simp⟩];rfl
def z7x(x y:PyData):Prop:=(x=.none/\y=.none)\/∃a b c,x=zG (a,b)/\y=zG (a,c)
theorem z0Z{ρ:Env'}{n:Nat}{P:Out->Nat->Prop}{x y:PyData}(e1:slW ρ[13]?=some (.p x))(e2:slW ρ[14]?=some (.p y))(h:z7x x y)(hp:P (.nx ρ) n):Ok (sIf (mOrT (mTest (mBin (fEq true) (mBin (fIs false) (mVar 13) (mC .none)) (mBin (fIs false) (mVar 14) (mC .none)))) (mAndT (mTest (mBin (fIs true) (mVar 13) (mC .none))) (mTest (mBin (fEq true) (mBin fIx (mVar 13) (mC (.int 0))) (mBin fIx (mVar 14) (mC (.int 0))))))) (sRet (mC (.bool false))) sNil ρ) n P:=by
 rcases h with ⟨rfl,rfl⟩ | ⟨a,b,c,rfl,rfl⟩
 ·refine t_sif (t_or (t_test (t_bin (t_bin (t_var e1 ?_)))));walk_at "e";rw[show fIs false .none .none=some (.bool true) from rfl];walk_at "e";refine t_var e2 ?_;walk_at "e";rw[show fIs false .none .none=some (.bool true) from rfl];walk_at "e";rw[show fEq true (.bool true) (.bool true)=some (.bool false) from rfl];walk_at "e";refine t_var e1 ?_;walk_at "e";rw[show fIs true .none .none=some (.bool false) from rfl];walk_at "e";exact hp
 ·refine t_sif (t_or (t_test (t_bin (t_bin (t_var e1 ?_)))));walk_at "e";rw[show fIs false (zG (a,b)) .none=some (.bool false) from rfl];walk_at "e";refine t_var e2 ?_;walk_at "e";rw[show fIs false (zG (a,c)) .none=some (.bool false) from rfl];walk_at "e";rw[show fEq true (.bool false) (.bool false)=some (.bool false) from rfl];walk_at "e";refine t_var e1 ?_;walk_at "e";rw[show fIs true (zG (a,b)) .none=some (.bool true) from rfl];walk_at "e";refine t_var e1 ?_;walk_at "e";rw[show fIx (zG (a,b)) (.int 0)=some (.int a) from rfl];walk_at "e";refine t_var e2 ?_;walk_at "e";rw[show fIx (zG (a,c)) (.int 0)=some (.int a) from rfl];walk_at "e";rw[decide_eq_true rfl];walk_at "e";exact hp
theorem z3G{m:Int}{ps:List (Int×Int)}{pl:List Int}{n:Nat}{P:D->Nat->Prop}(W:WebOk m ps)(L:PlOk m pl)(h:∀(b:Bool) (x:PyData),fIs false x .none=some (.bool b)->(∃r,z35 m ps pl r/\r.isSome=b)->P (.p x) n):Ok (z1b [.p (webD m ps),.p (plD pl)]) n P:=
 z7O W L (fun r S=>h true _ rfl ⟨_,S,rfl⟩) fun S l=>h false _ rfl ⟨_,S,rfl⟩
theorem z42(t:Adr):z6e 15 (z2x t):=by
 intro ns hns
 suffices h:Ok (z2x t (xl 15 ns)) 0 (fun o n'=>o=.rt (.p (.bool true))) by
  obtain⟨o,n',e,rfl⟩:=h;exact⟨n',e⟩
 unfold z2x xl;walk_at "e";refine z86 (by omega) fun m ps n1 W hn1=>?_;have hlo:=W.lo;have hhi:=W.hi;have h0:0<=m:=by omega
 have hfew:=z4b W;rw[zw];walk_at "e";rw[show PyData.int m=.int ((m.toNat:Nat):Int) by congr 1;omega];refine z5G (by omega) (by omega) fun nm n2 hp hn2=>?_;rw[show PyData.int ((m.toNat:Nat):Int)=.int m by congr 1;omega];walk_at "e";have hnl:=uI hp;refine z4B hlo hhi (by omega) fun pl n3 L hn3=>?_;walk_at "e";rw[<-zw];refine z11 W hp fun qs R=>?_;rw[zw];walk_at "e";rw[zb (by omega),zX m (by omega)];walk_at "e";have hin:∀{x:Int},0<=x/\x<m->x∈nm:=fun{x} hx=>hp.mem_iff.mpr (mem_upto.mpr (by omega));refine ue (fun i ρ n'=>n'=n3/\∃(acc:List (Int×Int)) (x7 x8 x9:Option Sl),Due m nm ps i (i+1) acc/\ρ=[some (Sl.val (.scr ns)),some (Sl.val .town),some (Sl.val (.p (.tuple [.int m,.tuple (ps.map zG)]))),some (Sl.val (.p (plD nm))),some (Sl.val (.p (plD pl))),some (Sl.val (.p (webD m qs))),some (Sl.own (.list (acc.map zG))),x7,x8,x9,none,none,none,none,none]) (fun i ρ n' hi hI=>?_) (fun ρ n' hI=>?_) ⟨by trivial,[],none,none,none,⟨.nil,fun a b=>⟨(fun z=>by cases z),(fun z=>by omega)⟩⟩,rfl⟩
 ·obtain⟨rfl,acc,x7,x8,x9,hD,rfl⟩:=hI;have hi':i<m.toNat:=by simpa[zN]using hi
  have ek:(upto m.toNat)[i]'(by rw[zN];omega)=(i:Int):=by simp[upto]
  rw[List.getElem_map,ek];refine⟨_,rfl,?_⟩;walk_at "e";rw[z2F ⟨by omega,by omega,by unfold lim;omega⟩];walk_at "e";refine ue (fun k ρ n2=>n2=n'/\∃(acc:List (Int×Int)) (x8 x9:Option Sl),Due m nm ps i (i+1+k) acc/\ρ=[some (Sl.val (.scr ns)),some (Sl.val .town),some (Sl.val (.p (.tuple [.int m,.tuple (ps.map zG)]))),some (Sl.val (.p (plD nm))),some (Sl.val (.p (plD pl))),some (Sl.val (.p (webD m qs))),some (Sl.own (.list (acc.map zG))),some (Sl.val (.p (.int i))),x8,x9,none,none,none,none,none]) (fun k ρ n2 hk hJ=>?_) (fun ρ n2 hJ=>?_) ⟨by trivial,acc,x8,x9,by rw[show(i:Int)+1+((0:Nat):Int)=i+1 by omega];exact hD,rfl⟩
  ·obtain⟨rfl,acc,x8,x9,hD,rfl⟩:=hJ;rw[yd]at hk;rw[wN];refine⟨_,rfl,?_⟩;have i1:(i:Int)∈nm:=hin (by omega);have i2:(i:Int)+1+k∈nm:=hin (by omega);walk_at "e";unfold z3B;walk_at "e";rw[show tupD (plD nm)=some (nm.map PyData.int) from rfl];walk_at "e";rw[z1c hp (by omega) i1];walk_at "e";rw[show tupD (plD nm)=some (nm.map PyData.int) from rfl];walk_at "e";rw[z1c hp (by omega) i2];walk_at "e";rw[z4c fun z=>by
    have z:nm.idxOf (i:Int)=nm.idxOf ((i:Int)+1+k):=by omega
    have ea:=List.getElem_idxOf (List.idxOf_lt_length_of_mem i1);have eb:=List.getElem_idxOf (List.idxOf_lt_length_of_mem i2);simp only[z]at ea;omega]
   generalize hq:tie2 ((nm.idxOf (i:Int):Nat):Int) ((nm.idxOf ((i:Int)+1+k):Nat):Int)=q;walk_at "e";refine z6M (l:=acc.map zG) rfl ?_;walk_at "e";unfold z6n;walk_at "e";rw[show fIx (.list [.int q.1,.int q.2]) (.int 0)=some (.int q.1) from rfl];walk_at "e";rw[show fIx (.list [.int q.1,.int q.2]) (.int 1)=some (.int q.2) from rfl];walk_at "e";rw[z4L];walk_at "e";have hfw:=hD.few hhi;by_cases c:q∈ps
   ·rw[show z5u [.bool (decide (q∈ps))]=some (.int 1) by rw[decide_eq_true c];rfl];walk_at "e";rw[mul1];walk_at "e";refine⟨[zG ((i:Int),(i:Int)+1+k)],rfl,by rw[List.length_map];simp;omega,by trivial,acc++[((i:Int),(i:Int)+1+k)],_,_,?_,by rw[List.map_append];rfl⟩;rw[show(i:Int)+1+((k+1:Nat):Int)=i+1+k+1 by omega];exact hD.yes (by omega) (by omega) (by omega) (by rw[hq];exact c)
   ·rw[show z5u [.bool (decide (q∈ps))]=some (.int 0) by rw[decide_eq_false c];rfl];walk_at "e";rw[show z3U (.list [.tuple [.int i,.int ((i:Int)+1+k)]]) (.int 0)=some (.list []) from rfl];walk_at "e";refine⟨[],rfl,by rw[List.length_map,List.length_nil];omega,by trivial,acc,_,_,?_,by rw[List.append_nil]⟩;rw[show(i:Int)+1+((k+1:Nat):Int)=i+1+k+1 by omega];exact hD.no (by rw[hq];exact c)
  ·obtain⟨rfl,acc,x8,x9,hD,rfl⟩:=hJ;rw[yd]at hD;refine⟨by trivial,acc,_,_,_,?_,rfl⟩;rw[show((i+1:Nat):Int)=i+1 by omega,show(i:Int)+1+1=i+2 by omega];exact hD.next (by omega)
 obtain⟨rfl,acc,x7,x8,x9,hD,rfl⟩:=hI;rw[List.length_map,zN]at hD;have hac:acc=qs:=z6R W hp R (by omega) hD;subst hac;walk_at "e";rw[zb (by omega),zX m (by omega)];walk_at "e";refine zf (J:=PyData.int) (J':=PyData.int) (f:=fun x=>((nm.idxOf x:Nat):Int)) (fun x hx=>?_) ?_
 ·have hx:=mem_upto.mp hx;walk_at "e";unfold z3B;walk_at "e";rw[show tupD (plD nm)=some (nm.map PyData.int) from rfl];walk_at "e";rw[z1c hp (by omega) (hin (by omega))];walk_at "e";exact⟨rfl,by trivial⟩
 try walk_at "e"
 rw[<-zw,<-zw,z4J];walk_at "e";refine z11 R.web (z2H h0 hp) fun q2 R2=>?_;have e2:q2=ps:=R2.uniq h0 (z2H h0 hp) (z5M W hp R);subst e2;walk_at "e";rw[z4J];walk_at "e";rw[z1o (by rw[List.length_map];have:=L.len;omega)];walk_at "e";refine zf (J:=PyData.int) (J':=PyData.int) (f:=sg nm) (fun y hy=>?_) ?_
 ·have:=L.inr y hy;walk_at "e";rw[show fIx (plD nm) (.int y)=some (.int (sg nm y)) from wT (by omega) (by omega)];walk_at "e";exact⟨rfl,by trivial⟩
 try walk_at "e"
 obtain⟨pm,e1,e2,e3⟩:=xc (l:=pl.map (sg nm)) (by rw[List.length_map];have:=L.len;omega);rw[e1];walk_at "e";have nds:(pl.map (sg nm)).Nodup:=List.pairwise_map.mpr (L.srt.imp_of_mem fun{a b} ha hb h e=>by have:=w9 h0 hp (L.inr a ha) (L.inr b hb) e;omega);have Lm:PlOk m pm:=⟨fun z=>L.ne (by subst z;simpa using e2.symm.eq_nil),fun x hx=>by
  obtain⟨y,hy,rfl⟩:=List.mem_map.mp (e2.mem_iff.mp hx);exact z1V h0 hp (L.inr y hy),z05 e3 e2 nds,by rw[e2.length_eq,List.length_map];exact L.len⟩
 have pp:∀x,x∈pm↔x∈pl.map (sg nm):=fun x=>e2.mem_iff;unfold z27 mFns;walk_at "e";generalize PyData.tuple (((upto m.toNat).map fun x=>((nm.idxOf x:Nat):Int)).map PyData.int)=BK;refine z1e ?_;walk_at "e";refine z3b ?_;walk_at "e";refine xF rfl ?_;walk_at "e";refine z2b W L fun f1 F1=>?_;walk_at "e";refine xF rfl ?_;walk_at "e";refine z2b R.web Lm fun f2 F2=>?_;walk_at "e";refine⟨_,_,rfl,?_⟩;refine t_nx (z0Z rfl rfl (z1G h0 hp z5t (z1a h0 hp W R L.inr e2 F1 F2)) ⟨_,rfl,?_⟩);clear F1 F2;refine z1e ?_;walk_at "e";refine z3b ?_;walk_at "e";refine xF rfl ?_;walk_at "e";refine uC W L fun r1 S1 _=>?_;walk_at "e";refine xF rfl ?_;walk_at "e";refine uC R.web Lm fun r2 S2 _=>?_;walk_at "e";refine⟨_,_,rfl,?_⟩;have A:z7x (rsD r1) (rsD r2):=by
  rcases ud h0 hp W R L Lm pp S1 S2 with ⟨rfl,rfl⟩ | ⟨k,g,g',rfl,rfl⟩
  ·exact .inl ⟨rfl,rfl⟩
  ·exact .inr ⟨k,g,g',rfl,rfl⟩
 refine t_nx (z0Z rfl rfl A ⟨_,rfl,?_⟩);refine z1e ?_;walk_at "e";refine z3b ?_;walk_at "e";refine xF rfl ?_;walk_at "e";refine z3g W L fun f3 F3=>?_;walk_at "e";refine xF rfl ?_;walk_at "e";refine z3g R.web Lm fun f4 F4=>?_;walk_at "e";refine⟨_,_,rfl,?_⟩;refine t_nx (z0Z rfl rfl (z1G h0 hp xh (z1a h0 hp W R L.inr e2 F3 F4)) ⟨_,rfl,?_⟩);clear F3 F4;simp only[uW];walk_at "e";refine z3G W L fun b1 x1 ex1 ⟨s1,T1,eq1⟩=>?_;walk_at "e";rw[ex1];walk_at "e";refine z3G R.web Lm fun b2 x2 ex2 ⟨s2,T2,eq2⟩=>?_;walk_at "e";rw[ex2];walk_at "e";have eb:b2=b1:=by
  rw[<-eq1,<-eq2];rcases ud h0 hp W R L Lm pp T1 T2 with ⟨rfl,rfl⟩ | ⟨k,g,g',rfl,rfl⟩<;>rfl
 rw[eb,z5E,decide_eq_true rfl];walk_at "e";refine z13 R.web fun f6 F6=>?_;walk_at "e";refine z13 W fun f5 F5=>?_;walk_at "e";have hup:(upto m.toNat).map (sg nm)=nm:=by
  refine List.ext_getElem (by simp[zN,hnl]) fun a h1 h2=>?_;simp[upto,sg,List.getD_eq_getElem?_getD,List.getElem?_eq_getElem h2]
 have Sm:=z1a h0 hp W R (fun p hp=>by have:=mem_upto.mp hp;omega) (by rw[hup];exact hp.symm) F5 F6;have hmid:∀x∈midL m.toNat f5,0<=x/\x<m:=fun x hx=>wv h0 (List.mem_filter.mp hx).1;have hml:(midL m.toNat f5).length<=m.toNat:=Nat.le_trans (List.length_filter_le _ _) (xJ _ _);rw[z18 (by rw[List.length_map];omega)];walk_at "e";refine zf (J:=PyData.int) (J':=PyData.int) (f:=sg nm) (fun y hy=>?_) ?_
 ·have:=hmid y hy;walk_at "e";rw[show fIx (plD nm) (.int y)=some (.int (sg nm y)) from wT (by omega) (by omega)];walk_at "e";exact⟨rfl,by trivial⟩
 try walk_at "e"
 obtain⟨us,u1,u2,u3⟩:=xc (l:=(midL m.toNat f5).map (sg nm)) (by rw[List.length_map];omega);rw[u1];walk_at "e";have rise:∀f:List (List (Int×Int)),(midL m.toNat f).Pairwise (·<·):=fun f=>((wS _).filter _).filter _;have nd5:((midL m.toNat f5).map (sg nm)).Nodup:=List.pairwise_map.mpr ((rise f5).imp_of_mem fun{a b} ha hb h e=>by have:=w9 h0 hp (hmid a ha) (hmid b hb) e;omega);have eus:us=midL m.toNat f6:=wO (z05 u3 u2 nd5) (rise f6) fun x=>by rw[u2.mem_iff,z51 h0 hp Sm]
 rw[eus,wp,decide_eq_true rfl];walk_at "e";rfl
theorem all_mk{l:W.OpenLaw}{w:World}{K:W.Frag}{h:Heap}{mg:Str->Option Value}{fa:Addr}(X:K.In h)(G:h.Ns mainGlobals mg)(hfa:mg "law"=some (.ref fa))
  {h_is_number h_are_numbers h_is_rising h_are_places h_is_tie h_is_each_once h_is_number_and_tuple h_is_web h_need_web h_need_places h_need_each_once h_renamed_web h_need_web_and_places h_tied_places h_fewest_steps h_ways_to_places h_steps h_one_move_on h_rounds h_bar h_rest_rounds h_middle h__law_cell_at h__law_mixed h__law_draw h__law_web h__law_names h__law_places h_law:Hd} {tk_q30:Tok}
  (g_q0:Giv K "is_number" (top 7) h_is_number)
  (g_q1:Giv K "are_numbers" (top 8) h_are_numbers)
  (g_q2:Giv K "is_rising" (top 9) h_is_rising)
  (g_q3:Giv K "are_places" (top 10) h_are_places)
  (g_q4:Giv K "is_tie" (top 11) h_is_tie)
  (g_q5:Giv K "is_each_once" (top 12) h_is_each_once)
  (g_q6:Giv K "is_number_and_tuple" (top 13) h_is_number_and_tuple)
  (g_q7:Giv K "is_web" (top 14) h_is_web)
  (g_q8:Giv K "need_web" (top 15) h_need_web)
  (g_q9:Giv K "need_places" (top 16) h_need_places)
  (g_q10:Giv K "need_each_once" (top 17) h_need_each_once)
  (g_q11:Giv K "renamed_web" (top 19) h_renamed_web)
  (g_q12:Giv K "need_web_and_places" (top 21) h_need_web_and_places)
  (g_q13:Giv K "tied_places" (top 22) h_tied_places)
  (g_q14:Giv K "fewest_steps" (top 23) h_fewest_steps)
  (g_q15:Giv K "ways_to_places" (top 24) h_ways_to_places)
  (g_q16:Giv K "steps" (top 25) h_steps)
  (g_q17:Giv K "one_move_on" (top 26) h_one_move_on)
  (g_q18:Giv K "rounds" (top 27) h_rounds)
  (g_bar:Giv K "bar" (top 28) h_bar)
  (g_q19:Giv K "rest_rounds" (top 30) h_rest_rounds)
  (g_q20:Giv K "middle" (top 31) h_middle)
  (g_q21:Giv K "_law_cell_at" (top 33) h__law_cell_at)
  (g_q22:Giv K "_law_mixed" (top 34) h__law_mixed)
  (g_q23:Giv K "_law_draw" (top 35) h__law_draw)
  (g_q25:Giv K "_law_web" (top 37) h__law_web)
  (g_q26:Giv K "_law_names" (top 38) h__law_names)
  (g_q27:Giv K "_law_places" (top 39) h__law_places)
  (g_law:Giv K "law" (top 40) h_law)
  (z_isinstance:W.nsIn K mainGlobals "isinstance"=some none)
  (z_bool:W.nsIn K mainGlobals "bool"=some none)
  (z_int:W.nsIn K mainGlobals "int"=some none)
  (z_tuple:W.nsIn K mainGlobals "tuple"=some none)
  (z_list:W.nsIn K mainGlobals "list"=some none)
  (z_all:W.nsIn K mainGlobals "all"=some none)
  (z_any:W.nsIn K mainGlobals "any"=some none)
  (z_range:W.nsIn K mainGlobals "range"=some none)
  (z_len:W.nsIn K mainGlobals "len"=some none)
  (z_sum:W.nsIn K mainGlobals "sum"=some none)
  (z_sorted:W.nsIn K mainGlobals "sorted"=some none)
  (z_min:W.nsIn K mainGlobals "min"=some none)
  (z_max:W.nsIn K mainGlobals "max"=some none)
  (z_dict:W.nsIn K mainGlobals "dict"=some none)
  (v_q30:W.nsIn K mainGlobals "MOST_PLACES"=some (some (.int 8 tk_q30))) :
  ∃fd:FuncData,(∀(s:Shared) (v:Value),BindsTo s fd ⟨[v],[]⟩ [("_law_script",v)])/\∀base:Heap,K.In base->base.Ns mainGlobals mg->FnOk l.prog w K mg base CX0 10 fa fd ["_law_script"] (z4Z K):=by
 have e:=hfa.symm.trans (W.mg_of X G g_law.a);cases e;have T:Txt K mg ⟨h_is_number.t "is_number" (top 7),h_are_numbers.t "are_numbers" (top 8),h_is_rising.t "is_rising" (top 9),h_are_places.t "are_places" (top 10),h_is_tie.t "is_tie" (top 11),h_is_each_once.t "is_each_once" (top 12),h_is_number_and_tuple.t "is_number_and_tuple" (top 13),h_is_web.t "is_web" (top 14),h_need_web.t "need_web" (top 15),h_need_places.t "need_places" (top 16),h_need_each_once.t "need_each_once" (top 17),h_renamed_web.t "renamed_web" (top 19),h_need_web_and_places.t "need_web_and_places" (top 21),h_tied_places.t "tied_places" (top 22),h_fewest_steps.t "fewest_steps" (top 23),h_ways_to_places.t "ways_to_places" (top 24),h_steps.t "steps" (top 25),h_one_move_on.t "one_move_on" (top 26),h_rounds.t "rounds" (top 27),h_bar.t "bar" (top 28),h_rest_rounds.t "rest_rounds" (top 30),h_middle.t "middle" (top 31),h__law_cell_at.t "_law_cell_at" (top 33),h__law_mixed.t "_law_mixed" (top 34),h__law_draw.t "_law_draw" (top 35),h__law_web.t "_law_web" (top 37),h__law_names.t "_law_names" (top 38),h__law_places.t "_law_places" (top 39),h_law.t "law" (top 40)⟩:={
  f_q0:=g_q0.f3 X G fun _ _ _ _ _ _ _ _ _=>rfl
  f_q1:=g_q1.f3 X G fun _ _ _ _ _ _ _ _ _=>rfl
  f_q2:=g_q2.f1 X G fun _ _ _ _ _ _ _=>rfl
  f_q3:=g_q3.f2 X G fun _ _ _ _ _ _ _ _=>rfl
  f_q4:=g_q4.f2 X G fun _ _ _ _ _ _ _ _=>rfl
  f_q5:=g_q5.f2 X G fun _ _ _ _ _ _ _ _=>rfl
  f_q6:=g_q6.f1 X G fun _ _ _ _ _ _ _=>rfl
  f_q7:=g_q7.f1 X G fun _ _ _ _ _ _ _=>rfl
  f_q8:=g_q8.f1 X G fun _ _ _ _ _ _ _=>rfl
  f_q9:=g_q9.f2 X G fun _ _ _ _ _ _ _ _=>rfl
  f_q10:=g_q10.f2 X G fun _ _ _ _ _ _ _ _=>rfl
  f_q11:=g_q11.f2 X G fun _ _ _ _ _ _ _ _=>rfl
  f_q12:=g_q12.f2 X G fun _ _ _ _ _ _ _ _=>rfl
  f_q13:=g_q13.f1 X G fun _ _ _ _ _ _ _=>rfl
  f_q14:=g_q14.f2 X G fun _ _ _ _ _ _ _ _=>rfl
  f_q15:=g_q15.f2 X G fun _ _ _ _ _ _ _ _=>rfl
  f_q16:=g_q16.f2 X G fun _ _ _ _ _ _ _ _=>rfl
  f_q17:=g_q17.f2 X G fun _ _ _ _ _ _ _ _=>rfl
  f_q18:=g_q18.f2 X G fun _ _ _ _ _ _ _ _=>rfl
  f_bar:=g_bar.f2 X G fun _ _ _ _ _ _ _ _=>rfl
  f_q19:=g_q19.f2 X G fun _ _ _ _ _ _ _ _=>rfl
  f_q20:=g_q20.f1 X G fun _ _ _ _ _ _ _=>rfl
  f_q21:=g_q21.f2 X G fun _ _ _ _ _ _ _ _=>rfl
  f_q22:=g_q22.f3 X G fun _ _ _ _ _ _ _ _ _=>rfl
  f_q23:=g_q23.f3 X G fun _ _ _ _ _ _ _ _ _=>rfl
  f_q25:=g_q25.f4 X G fun _ _ _ _ _ _ _ _ _ _=>rfl
  f_q26:=g_q26.f3 X G fun _ _ _ _ _ _ _ _ _=>rfl
  f_q27:=g_q27.f3 X G fun _ _ _ _ _ _ _ _ _=>rfl
  f_law:=g_law.f1 X G fun _ _ _ _ _ _ _=>rfl
  b_isinstance:=W.mg_none_of X G z_isinstance
  b_bool:=W.mg_none_of X G z_bool
  b_int:=W.mg_none_of X G z_int
  b_tuple:=W.mg_none_of X G z_tuple
  b_list:=W.mg_none_of X G z_list
  b_all:=W.mg_none_of X G z_all
  b_any:=W.mg_none_of X G z_any
  b_range:=W.mg_none_of X G z_range
  b_len:=W.mg_none_of X G z_len
  b_sum:=W.mg_none_of X G z_sum
  b_sorted:=W.mg_none_of X G z_sorted
  b_min:=W.mg_none_of X G z_min
  b_max:=W.mg_none_of X G z_max
  b_dict:=W.mg_none_of X G z_dict
  g_q30:=⟨_,W.mg_of X G v_q30,⟨_,rfl⟩⟩ }
 exact⟨(h_law.t "law" (top 40)).d,fun s v=>.of_eq rfl,fun base _ _=>z8F T (z42 _)⟩
theorem walk{l:W.OpenLaw}{q:Program}{loose:List Str}{XP:(Str->Option Value)->Heap->Prop}{YP:World->Heap->Prop}{d:DefRec}{K:Params->W.Frag}(hn:l.most=some 63)(hdf:d.params.defaults=[])
  (hY:∀(w:World) (h:Heap),YP w h->(K w.params).In h)
  (F:∀(w:World) (mg:Str->Option Value) (fa:Addr) (h:Heap),(K w.params).In h->h.Ns mainGlobals mg->mg d.name=some (.ref fa)->
   ∃fd:FuncData,(∀(s:Shared) (u:Value),BindsTo s fd ⟨[u],[]⟩ [("_law_script",u)])/\∀base:Heap,(K w.params).In base->base.Ns mainGlobals mg->FnOk l.prog w (K w.params) mg base CX0 10 fa fd ["_law_script"] (z4Z (K w.params))) :
  W.WalkO q loose XP YP l.row.toRowW d [] (fun f vs=>PySem.call f vs):=
 L2.walk_of (n:=63) (k:=10) (x:="_law_script") (CX:=fun _=>CX0) (sp:=fun w=>z4Z (K w.params)) hn (by decide) hdf ⟨rfl,by decide,by decide⟩ hY F (fun _ _ a ns hl _ hS=>⟨a,ns,rfl,hS,hl,fun _=>rfl⟩) fun _ _ _ _ _ z=>z
end Gw
open PySem PySem.W PyProof.Rows
local macro_rules | `(tactic| walk_at "g")=>`(tactic| (refine' L2.Giv.of ?ka ?kl ?kc ?kk;(case ka=>k_is);(case kl=>k_is);(case kc=>k_is);(case kk=>k_is)))
theorem PySem.W.Fast.tw3967408564845844066:True:=trivial
theorem PySem.W.Fast.tw12676103630716836680:True:=trivial
theorem PySem.W.Fast.tw17975161973103787911:True:=trivial
theorem PySem.W.Fast.tw17153900197842732337:True:=trivial
theorem PySem.W.Fast.tw530868471683149546:True:=trivial
theorem PySem.W.Fast.tw17724937894029753304:True:=trivial
theorem PySem.W.Fast.tw5058893843038736551:True:=trivial
theorem PySem.W.Fast.tw9261309926716597841:True:=trivial
theorem PySem.W.Fast.tw2216584108545072546:True:=trivial
theorem PySem.W.Fast.tw13520953015420916939:True:=trivial
theorem PySem.W.Fast.tw8822061445922049741:True:=trivial
set_option maxRecDepth 100000 in
set_option maxHeartbeats 0 in
theorem PySem.Challenge.cw_gatherall_k11_whole_renamed_webs_holds : PySem.Challenge.rw_gatherall_k11_whole_renamed_webs.Holds := by
 w_on; o_law; k_head; (case hw => w_witness2)
 k_fill
 refine Gw.walk (l := PySem.Challenge.rw_gatherall_k11_whole_renamed_webs) rfl rfl (fun w h Y => PySem.W.kIn_of Y) ?F
 case F =>
  intro w mg fa h KX G hmg
  refine' Gw.all_mk KX G hmg ?g_q0 ?g_q1 ?g_q2 ?g_q3 ?g_q4 ?g_q5 ?g_q6 ?g_q7 ?g_q8 ?g_q9 ?g_q10 ?g_q11 ?g_q12 ?g_q13 ?g_q14 ?g_q15 ?g_q16 ?g_q17 ?g_q18 ?g_bar ?g_q19 ?g_q20 ?g_q21 ?g_q22 ?g_q23 ?g_q25 ?g_q26 ?g_q27 ?g_law ?z_isinstance ?z_bool ?z_int ?z_tuple ?z_list ?z_all ?z_any ?z_range ?z_len ?z_sum ?z_sorted ?z_min ?z_max ?z_dict ?v_q30
  (case g_q0 => walk_at "g")
  (case g_q1 => walk_at "g")
  (case g_q2 => walk_at "g")
  (case g_q3 => walk_at "g")
  (case g_q4 => walk_at "g")
  (case g_q5 => walk_at "g")
  (case g_q6 => walk_at "g")
  (case g_q7 => walk_at "g")
  (case g_q8 => walk_at "g")
  (case g_q9 => walk_at "g")
  (case g_q10 => walk_at "g")
  (case g_q11 => walk_at "g")
  (case g_q12 => walk_at "g")
  (case g_q13 => walk_at "g")
  (case g_q14 => walk_at "g")
  (case g_q15 => walk_at "g")
  (case g_q16 => walk_at "g")
  (case g_q17 => walk_at "g")
  (case g_q18 => walk_at "g")
  (case g_bar => walk_at "g")
  (case g_q19 => walk_at "g")
  (case g_q20 => walk_at "g")
  (case g_q21 => walk_at "g")
  (case g_q22 => walk_at "g")
  (case g_q23 => walk_at "g")
  (case g_q25 => walk_at "g")
  (case g_q26 => walk_at "g")
  (case g_q27 => walk_at "g")
  (case g_law => walk_at "g")
  (case z_isinstance => k_is)
  (case z_bool => k_is)
  (case z_int => k_is)
  (case z_tuple => k_is)
  (case z_list => k_is)
  (case z_all => k_is)
  (case z_any => k_is)
  (case z_range => k_is)
  (case z_len => k_is)
  (case z_sum => k_is)
  (case z_sorted => k_is)
  (case z_min => k_is)
  (case z_max => k_is)
  (case z_dict => k_is)
  (case v_q30 => k_is)
#print axioms PySem.Challenge.cw_gatherall_k11_whole_renamed_webs_holds
