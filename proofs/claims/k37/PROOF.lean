import PyProof.Rows.All
import Wide.All
import OpenK.AllK
import Wide.FinOn
import Lean
import PyProof.EqAt
import PyProof.EqKinds
import PyProof.TupleCall
import KE.KTryMore
import PyProof.NsDelKeeps
import PyProof.EnumStmt
import KE.KRevIter
import PyProof.ListNew
import PySem.Challenge.RW_sowring_k37_whole_comes_to_marching
open List renaming getD_eq_getElem?_getD->ZlS,mem_append_right->ZlT,getElem?_eq_getElem->ZlU,getElem?_append_left->ZlV,size_toArray->ZlW,getElem?_append_right->ZlZ,mem_append->Zma,mem_append_left->Zmb,getElem?_eq_none->Zmc,map_cons->Zmd,map_append->Zme,mem_cons->Zmf,sum_cons->Zmg,length_map->Zmh,range_succ->Zmi,sum_append->Zmj,getElem?_map->Zmm,map_nil->Zmn,getElem?_set_self->Zmo,mem_range->Zmp,replicate_succ->Zmq,getElem?_range->Zmr,getElem?_eq_some_iff->Zms,getElem?_set_ne->Zmt,lookup_cons->Zmv,length_append->Zmx,sum_nil->Zmy,getElem?_eq_none_iff->Zmz,drop_eq_getElem_cons->Zm0,length_replicate->Zm1,mem_cons_of_mem->Zm2,drop_eq_nil_of_le->Zm3,length_set->Zm4,mem_map->Zm5,getElem?_replicate->Zm7,length_pos_iff->ZmA,map_congr_left->ZmC,length_drop->ZmE,append_nil->ZmF,getElem?_take_of_lt->ZmG,flatten_cons->ZmH,length_take->ZmM,all_eq_true->ZmN,length_cons->ZmO,mem_of_getElem?->ZmR,mem_or_eq_of_mem_set->ZmS,mem_filter->ZmT,mem_cons_self->ZmU,getElem?_cons_zero->ZmV,ext_getElem?->ZmX,singleton_append->Zna,contains_iff_mem->Znb,getElem?_replicate_of_lt->Znf,getElem?_mapIdx->Zng,filterMap_cons->Znh,nodup_cons->Zni,mem_filterMap->Znk,append_assoc->Zno,mem_reverse->Znp,ext_getElem->Znr,of_mem_zip->Znt,nil_append->Znu
open Nat renaming lt_of_lt_of_le->ZlX,le_refl->ZlY,ne_of_lt->Zmk,le_trans->Zml,lt_irrefl->Zmu,mod_eq_of_lt->Zmw,zero_le->Zm9,add_mod_right->ZmJ,lt_of_le_of_lt->ZmP,ne_of_gt->ZmQ,not_lt->ZmW,mod_lt->ZmZ,add_zero->Znc,zero_add->Znd,add_sub_cancel->Znl,lt_succ_self->Znq,le_of_lt->Zns
open Int renaming emod_lt_of_pos->Zm6,toNat_natCast->Zm8,add_mul->ZmB,one_mul->ZmD,emod_nonneg->ZmI,mul_one->ZmK,mul_add->ZmL,le_refl->ZmY,toNat_of_nonneg->Znj,le_trans->Znm,zero_add->Znn
open Option renaming getD_some->Zne
set_option Elab.async false
set_option genSizeOf false
set_option genSizeOfSpec false
set_option linter.all false
set_option maxRecDepth 100000
namespace L2
open PySem PySem.Spec PyProof.Rows
noncomputable abbrev Key:=Sum Int Str
noncomputable def Zgn:Key->Value->Bool
 |.inl k,v=>Value.isInt k v
 |.inr x,v=>Value.isStrOf x v
noncomputable def Zih (w:World):Key->Int
 |.inl k=>hashInt k
 |.inr x=>hashStr w x
theorem ZS:∀{k:Key}{v:Value},Zgn k v=true->(∃i t,k=Sum.inl i/\v=Value.int i t)\/(∃x t,k=Sum.inr x/\v=Value.str x t)
 |.inl i,v,h=>by
  obtain⟨t,e⟩:=Value.isInt_shape (k:=i) (v:=v) h
  exact .inl ⟨i,t,rfl,e⟩
 |.inr x,v,h=>by
  obtain⟨t,e⟩:=Value.isStrOf_shape (x:=x) (v:=v) h
  exact .inr ⟨x,t,rfl,e⟩
theorem Zgm (a b:Int):decide ((Sum.inl a:Key)=Sum.inl b)=(a==b):=by
 by_cases e:a=b
 ·subst e;simp
 ·have h:¬(Sum.inl a:Key)=Sum.inl b:=fun q=>e (Sum.inl.inj q)
  rw[decide_eq_false h]
  exact(beq_eq_false_iff_ne.mpr e).symm
theorem Zgj (a b:Str):decide ((Sum.inr a:Key)=Sum.inr b)=decide (a=b):=by
 by_cases e:a=b
 ·subst e;simp
 ·have h:¬(Sum.inr a:Key)=Sum.inr b:=fun q=>e (Sum.inr.inj q)
  rw[decide_eq_false h,decide_eq_false e]
theorem Zgl (a:Int) (b:Str):decide ((Sum.inl a:Key)=Sum.inr b)=false:=decide_eq_false (fun q=>nomatch q)
theorem Zgk (a:Str) (b:Int):decide ((Sum.inr a:Key)=Sum.inl b)=false:=decide_eq_false (fun q=>nomatch q)
noncomputable def Zcj (prog:Program) (w:World):PySem.KeyKind prog w Key where
 is:=Zgn
 hash:=Zih w
 inj:=fun v a b ha hb=>by
  rcases ZS ha with ⟨i,t,rfl,rfl⟩|⟨x,t,rfl,rfl⟩
  ·rcases ZS hb with ⟨j,u,rfl,e⟩|⟨y,u,rfl,e⟩
   ·injection e with e1 _;rw[e1]
   ·exact nomatch e
  ·rcases ZS hb with ⟨j,u,rfl,e⟩|⟨y,u,rfl,e⟩
   ·exact nomatch e
   ·injection e with e1 _;rw[e1]
 byValue:=fun k v h=>by
  rcases ZS h with ⟨i,t,rfl,rfl⟩|⟨x,t,rfl,rfl⟩<;>rfl
 pyHash:=fun hv h=>by
  rcases ZS hv with ⟨i,t,rfl,rfl⟩|⟨x,t,rfl,rfl⟩
  ·exact wpAny_pyHash_int h
  ·exact wpAny_pyHash_str h
 eqBool:=fun hu hv h=>by
  rcases ZS hu with ⟨i,t,rfl,rfl⟩|⟨x,t,rfl,rfl⟩
  ·rcases ZS hv with ⟨j,u,rfl,rfl⟩|⟨y,u,rfl,rfl⟩
   ·rw[Zgm] at h;exact wpAny_eqBool_int h
   ·rw[Zgl] at h;exact SeqAt.EqAt.int_str i t y u _ _ _ _ h
  ·rcases ZS hv with ⟨j,u,rfl,rfl⟩|⟨y,u,rfl,rfl⟩
   ·rw[Zgk] at h;exact SeqAt.EqAt.str_int x t j u _ _ _ _ h
   ·rw[Zgj] at h;exact wpAny_eqBool_str h
 «strs»:=fun k x t v h=>by
  rcases ZS h with ⟨i,u,rfl,e⟩|⟨y,u,rfl,e⟩
  ·exact nomatch e
  ·injection e with e1 _
   subst e1
   cases v<;>rfl
inductive V where
 |non|bl (b:Bool)|int (i:Int)|str (x:Str)|byt (b:Array UInt8)|flt (b:UInt64)|ref (a:Addr)|ty (n:String)
 deriving DecidableEq
noncomputable def Jq:V->Value->Prop
 |.non,u=>u=Value.none
 |.bl b,u=>u=Value.bool b
 |.int i,u=>∃t,u=Value.int i t
 |.str x,u=>∃t,u=Value.str x t
 |.byt b,u=>∃t,u=Value.bytes b t
 |.flt b,u=>∃t,u=Value.float b t
 |.ref a,u=>u=Value.ref a
 |.ty n,u=>u=Value.type n
noncomputable abbrev ZZ:List V->List Value->Prop:=Paired Jq
theorem ZZ.length {xs:List V}{us:List Value} (r:ZZ xs us):xs.length=us.length:=Paired.length r
theorem ZZ.get:∀{xs:List V}{us:List Value}{i:Nat}{x:V},ZZ xs us->xs[i]?=some x->∃u,us[i]?=some u/\Jq x u
 |_,_,_,_,.nil,e=>by simp at e
 |_,_,0,_,.cons r _,e=>by simp at e;subst e;exact⟨_,rfl,r⟩
 |_,_,i+1,x,.cons _ t,e=>by
  obtain⟨u,h1,h2⟩:=ZZ.get (i:=i) (x:=x) t (by simpa using e)
  exact⟨u,by simpa using h1,h2⟩
theorem ZZ.set {x:V}{u:Value} (r:Jq x u):∀{xs:List V}{us:List Value} (i:Nat),ZZ xs us->ZZ (xs.set i x) (us.set i u)
 |_,_,_,.nil=>.nil
 |_,_,0,.cons _ t=>.cons r t
 |_,_,i+1,.cons q t=>.cons q (ZZ.set r i t)
theorem ZZ.append:∀{xs ys:List V}{us ws:List Value},ZZ xs us->ZZ ys ws->ZZ (xs++ys) (us++ws)
 |_,_,_,_,.nil,s=>s
 |_,_,_,_,.cons r t,s=>.cons r (ZZ.append t s)
theorem ZZ.take:∀{xs:List V}{us:List Value} (n:Nat),ZZ xs us->ZZ (xs.take n) (us.take n)
 |_,_,0,_=>.nil
 |_,_,_+1,.nil=>.nil
 |_,_,n+1,.cons r t=>.cons r (ZZ.take n t)
theorem ZZ.drop:∀{xs:List V}{us:List Value} (n:Nat),ZZ xs us->ZZ (xs.drop n) (us.drop n)
 |_,_,0,r=>r
 |_,_,_+1,.nil=>.nil
 |_,_,n+1,.cons _ t=>ZZ.drop n t
noncomputable def ZhS:Option V->Option Value->Prop
 |some v,some u=>Jq v u
 |none,none=>True
 |_,_=>False
def KV {κ:Type}:List (κ×V)->List (κ×Value)->Prop:=Paired fun(p:κ×V) (q:κ×Value)=>p.1=q.1/\Jq p.2 q.2
noncomputable def kV:Key->V
 |.inl i=>.int i
 |.inr x=>.str x
inductive HO where
  |lst (xs:List V)
  |tup (xs:List V)
  |dK (kvs:List (Key×V))|dT (kvs:List (List Key×V))
  |set (S:Int->Bool) (n:Nat)
  |ins (C dx:Addr) (fs:List (Str×V))
  |own (x:Addr)
  |xd (fs:List (Str×V))
  |met (f x:Addr)
  |rng (lo hi:Int)
  |frz (o:Obj) (u:HO)
  |tbl (ps:Array Value)
  |ext (φ:Heap->Prop)
noncomputable abbrev Hp:=Addr->Option HO
noncomputable def upd (H:Hp) (a:Addr) (o:HO):Hp:=fun b=>if b=a then some o else H b
theorem ZO {H:Hp}{a:Addr}{o:HO}:upd H a o a=some o:=by unfold upd;rw[if_pos rfl]
theorem Z1 {H:Hp}{a b:Addr}{o:HO} (h:b≠a):upd H a o b=H b:=by unfold upd;rw[if_neg h]
theorem Zhj {H:Hp}{a b:Addr}{o u:HO} (h:H a=some o) (h':H b=some u) (d:o≠u):a≠b:=by
 intro e;subst e;rw[h] at h';exact d (Option.some.inj h')
theorem Z3 {H:Hp}{a b:Addr}{o:HO} (h:H a=some o) (h':H b=none):a≠b:=by
 intro e;subst e;rw[h] at h';cases h'
section
variable (P:Program) (w:World)
noncomputable def Vk (H:Hp) (h:Heap) (a:Addr):HO->Prop
 |.lst xs=>xs.length<=sizeLine/\∃(its:List Value) (n:Nat),ZZ xs its/\h.get? a=some { cls:=.type "list",data:=.seq its.toArray n }
 |.tup xs=>xs.length<=sizeLine/\∃its:List Value,ZZ xs its/\IsTup h a its.toArray
 |.dK kvs=>kvs.length<=sizeLine/\(a==sysModules)=false/\∃vs,KV kvs vs/\h.DictOf (Zcj P w) a vs
 |.dT kvs=>kvs.length<=sizeLine/\(a==sysModules)=false/\∃xs:List (List Key×Addr×Value),
   Paired (fun(p:List Key×V) (q:List Key×Addr×Value)=>p.1=q.1/\H q.2.1=some (.tup (p.1.map kV))/\Jq p.2 q.2.2) kvs xs /\
   ∃o es ep,h.get? a=some o/\o.ExactDict/\o.data=.dict es ep/\es.toList=xs.map (entryOfKey (tupleKind (Zcj P w)))/\(xs.map (·.1)).Nodup
 |.set S n=>h.SetOf (intKind P w) a S n
 |.ins C dx fs=>H dx=some (.own a)/\fs.length<=1000/\dx≠a/\h.get? a=some (PySem.W.instObj C dx) /\
   ∃mA,h.Ns1 dx mA/\(∀f,ZhS (fs.lookup f) (mA f))/\PySem.Within mA (fs.map (·.1))
 |.own _=>∃o,h.get? a=some o
 |.xd fs=>∃mA,h.Ns1 a mA/\∀f,ZhS (fs.lookup f) (mA f)
 |.rng lo hi=>∃t u v,h.get? a=some { cls:=.type "range",data:=.fields #[.int lo t,.int hi u,.int 1 v] }
 |.frz o u=>h.get? a=some o/\Vk H h a u
 |.tbl ps=>h.get? a=some { cls:=.none,data:=.fields ps }
 |.met f x=>h.get? a=some (PySem.W.methodObj (.ref f) (.ref x))
 |.ext φ=>φ h/\(∃o,h.get? a=some o)/\∀h1 h2:Heap,φ h1->(∀o,h1.get? a=some o->h2.get? a=some o)->φ h2
def HOk (H:Hp) (h:Heap):Prop:=∀a o,H a=some o->Vk P w H h a o
end
section
variable {P:Program}{w:World}{H H':Hp}{h h':Heap}{a:Addr}{o:HO}
theorem Vk.lt (x:Vk P w H h a o):a<h.objs.size:=by
 cases o with
 |lst xs=>obtain⟨_,_,_,_,e⟩:=x;exact Heap.lt_size e
 |tup xs=>obtain⟨_,_,_,p⟩:=x;exact p.lt
 |dK kvs=>obtain⟨_,_,_,_,o,_,_,e,_⟩:=x;exact Heap.lt_size e
 |dT kvs=>obtain⟨_,_,_,_,o,_,_,e,_⟩:=x;exact Heap.lt_size e
 |set S n=>obtain⟨o,_,_,_,e,_⟩:=x;exact Heap.lt_size e
 |ins C dx fs=>obtain⟨_,_,_,e,_⟩:=x;exact Heap.lt_size e
 |own y=>obtain⟨_,e⟩:=x;exact Heap.lt_size e
 |xd fs=>obtain⟨_,⟨_,_,_,e,_⟩,_⟩:=x;exact Heap.lt_size e
 |rng lo hi=>obtain⟨_,_,_,e⟩:=x;exact Heap.lt_size e
 |frz ob u=>obtain⟨e,_⟩:=x;exact Heap.lt_size e
 |tbl ps=>exact Heap.lt_size (show h.get? a=some _ from x)
 |met f y=>exact Heap.lt_size (show h.get? a=some _ from x)
 |ext φ=>obtain⟨_,⟨_,e⟩,_⟩:=x;exact Heap.lt_size e
theorem Paired.mapP {α β:Type}{F G:α->β->Prop}:∀{l₁:List α}{l₂:List β},Paired F l₁ l₂->(∀a b,F a b->G a b)->Paired G l₁ l₂
 |_,_,.nil,_=>.nil
 |_,_,.cons r t,f=>.cons (f _ _ r) (Paired.mapP t f)
theorem Vk.stay (x:Vk P w H h a o) (k:∀b u,(b=a\/H b=some (.own a))->h.get? b=some u->h'.get? b=some u)
  (ho:∀b,H b=some (.own a)->H' b=some (.own a)) (ht:∀b xs,H b=some (.tup xs)->H' b=some (.tup xs)):Vk P w H' h' a o:=by
 induction o with
 |lst xs=>obtain⟨z,its,n,r,e⟩:=x;exact⟨z,its,n,r,k _ _ (.inl rfl) e⟩
 |tup xs=>obtain⟨z,its,r,ob,e,c⟩:=x;exact⟨z,its,r,ob,k _ _ (.inl rfl) e,c⟩
 |dK kvs=>obtain⟨z,y,vs,r,ob,es,ep,e,c⟩:=x;exact⟨z,y,vs,r,ob,es,ep,k _ _ (.inl rfl) e,c⟩
 |dT kvs =>
  obtain⟨z,y,xs,r,ob,es,ep,e,c⟩:=x
  exact⟨z,y,xs,Paired.mapP r fun p q z=>⟨z.1,ht _ _ z.2.1,z.2.2⟩,ob,es,ep,k _ _ (.inl rfl) e,c⟩
 |set S n=>obtain⟨ob,es,ep,t,e,c⟩:=x;exact⟨ob,es,ep,t,k _ _ (.inl rfl) e,c⟩
 |ins C dx fs =>
  obtain⟨d,z,ne,e,mA,⟨od,es,ep,e2,c⟩,r⟩:=x
  exact⟨ho _ d,z,ne,k _ _ (.inl rfl) e,mA,⟨od,es,ep,k _ _ (.inr d) e2,c⟩,r⟩
 |own y=>obtain⟨ob,e⟩:=x;exact⟨ob,k _ _ (.inl rfl) e⟩
 |xd fs=>obtain⟨mA,⟨od,es,ep,e,c⟩,r⟩:=x;exact⟨mA,⟨od,es,ep,k _ _ (.inl rfl) e,c⟩,r⟩
 |rng lo hi=>obtain⟨t,u,v,e⟩:=x;exact⟨t,u,v,k _ _ (.inl rfl) e⟩
 |frz ob u ih=>obtain⟨e,q⟩:=x;exact⟨k _ _ (.inl rfl) e,ih q⟩
 |tbl ps =>
  have e:h.get? a=some { cls:=.none,data:=.fields ps }:=x
  show h'.get? a=some { cls:=.none,data:=.fields ps }
  exact k a _ (.inl rfl) e
 |met f y =>
  have e:h.get? a=some (PySem.W.methodObj (.ref f) (.ref y)):=x
  show h'.get? a=some (PySem.W.methodObj (.ref f) (.ref y))
  exact k a _ (.inl rfl) e
 |ext φ=>obtain⟨p,⟨o,e⟩,st⟩:=x;exact⟨st _ _ p fun o q=>k _ _ (.inl rfl) q,⟨o,k _ _ (.inl rfl) e⟩,st⟩
theorem HOk.lt (x:HOk P w H h) (e:H a=some o):a<h.objs.size:=(x a o e).lt
theorem HOk.fresh (x:HOk P w H h) (e:h.objs.size<=a):H a=none:=by
 cases q:H a with
 |none=>rfl
 |some u=>exact absurd (ZlX (x.lt q) e) (Zmu _)
theorem HOk.kept (x:HOk P w H h) (k:∀b u,h.get? b=some u->h'.get? b=some u):HOk P w H h':=fun a o e =>
 (x a o e).stay (fun b u _ q=>k b u q) (fun _ q=>q) fun _ _ q=>q
theorem HOk.laid (x:HOk P w H h) (k:∀b u,h.get? b=some u->h'.get? b=some u) (hp:h.objs.size<=a) (new:Vk P w (upd H a o) h' a o):HOk P w (upd H a o) h':=fun b u e=>by
 have hn:=x.fresh hp
 by_cases hb:b=a
 ·subst hb;rw[ZO] at e;cases e;exact new
 ·rw[Z1 hb] at e
  exact(x b u e).stay (fun c v _ q=>k c v q) (fun c q=>by rw[Z1 (Z3 q hn)];exact q) fun c xs q=>by rw[Z1 (Z3 q hn)];exact q
end
def Rd (H:Hp) (a:Addr) (u:HO):Prop:=H a=some u\/∃o,H a=some (.frz o u)
theorem Rd.ok {P:Program}{w:World}{H:Hp}{h:Heap}{a:Addr}{u:HO} (r:Rd H a u) (x:HOk P w H h):Vk P w H h a u:=by
 rcases r with r|⟨o,r⟩
 ·exact x a u r
 ·obtain⟨_,q⟩:=x a _ r
  exact q
noncomputable def Mut:Option HO->Prop
 |some (.lst _)=>True
 |some (.dK _)=>True
 |some (.dT _)=>True
 |some (.set _ _)=>True
 |some (.ins _ _ _)=>True
 |some (.ext _)=>True
 |_=>False
section
variable {P:Program}{w:World}{H:Hp}{h h':Heap}{x e:Addr}{o':HO}
theorem HOk.write (ok:HOk P w H h) (mu:Mut (H x)) (he:e=x\/H e=some (.own x)) (k:∀b u,b≠e->h.get? b=some u->h'.get? b=some u) (heo:∃u,h'.get? e=some u)
  (new:Vk P w (upd H x o') h' x o'):HOk P w (upd H x o') h':=fun b u q=>by
 have nown:∀c y,H c=some (.own y)->c≠x:=fun c y r z=>by subst z;rw[r] at mu;exact mu
 have ntup:∀c xs,H c=some (.tup xs)->c≠x:=fun c xs r z=>by subst z;rw[r] at mu;exact mu
 by_cases hb:b=x
 ·subst hb;rw[ZO] at q;cases q;exact new
 ·rw[Z1 hb] at q
  by_cases hbe:b=e
  ·have q':H b=some (.own x):=by
    rcases he with z|z
    ·exact absurd (hbe.trans z) hb
    ·rw[hbe];exact z
   rw[q] at q';cases q'
   obtain⟨v,hv⟩:=heo
   exact⟨v,by rw[hbe];exact hv⟩
  ·refine(ok b u q).stay (fun c v hc r=>k c v ?_ r) (fun c r=>by rw[Z1 (nown c b r)];exact r) fun c xs r=>by rw[Z1 (ntup c xs r)];exact r
   rcases hc with rfl|hc
   ·exact hbe
   ·rintro rfl
    rcases he with z|z
    ·exact nown c b hc z
    ·rw[hc] at z;cases z;exact hb rfl
end
structure Un (fs ex:List Addr) (H H':Hp) (h h':Heap):Prop where
 keep:∀b o,h.get? b=some o->H b=none->b ∉ fs->b ∉ ex->h'.get? b=some o
 slot:∀b o,h.get? b=some o->H b=none->b∈fs->b ∉ ex->∃sl,h'.get? b=some { o with slots:=sl }
 free:∀b o,h.get? b=some o->H b=none->b ∉ ex->H' b=none
 there:∀b o,h.get? b=some o->b ∉ ex->∃o',h'.get? b=some o'
 tups:∀b xs,H b=some (.tup xs)->H' b=some (.tup xs)
 frzs:∀b o u,H b=some (.frz o u)->H' b=some (.frz o u)
 tbls:∀b ps,H b=some (.tbl ps)->∃more,H' b=some (.tbl (ps++more))
section
variable {fs ex:List Addr}{H H1:Hp}{h h1 h':Heap}{a x e:Addr}{o:HO}
theorem Un.any (u:Un fs ex H H1 h h1) {b:Addr}{ob:Obj} (q:h.get? b=some ob) (n:H b=none) (hx:b ∉ ex):∃sl,h1.get? b=some { ob with slots:=sl }:=by
 by_cases hb:b∈fs
 ·exact u.slot b ob q n hb hx
 ·exact⟨ob.slots,u.keep b ob q n hb hx⟩
theorem Un.kept (k:∀b u,h.get? b=some u->h'.get? b=some u):Un fs ex H H h h':=
 ⟨fun b ob q _ _ _=>k b ob q,fun b ob q _ _ _=>⟨ob.slots,k b ob q⟩,fun _ _ _ n _=>n,fun b ob q _=>⟨ob,k b ob q⟩,fun _ _ q=>q,fun _ _ _ q=>q,fun _ ps q=>⟨#[],by rw[q];simp⟩⟩
theorem Un.refl:Un fs ex H H h h:=Un.kept fun _ _ q=>q
theorem Un.laid (k:∀b u,h.get? b=some u->h'.get? b=some u) (hp:h.objs.size<=a) (hn:H a=none):Un fs ex H (upd H a o) h h' where
 keep:=fun b u q _ _ _=>k b u q
 slot:=fun b u q _ _ _=>⟨u.slots,k b u q⟩
 free:=fun b u q n _=>by rw[Z1 (Zmk (ZlX (Heap.lt_size q) hp))];exact n
 there:=fun b u q _=>⟨u,k b u q⟩
 tups:=fun b xs q=>by rw[Z1 (Z3 q hn)];exact q
 frzs:=fun b u xs q=>by rw[Z1 (Z3 q hn)];exact q
 tbls:=fun b ps q=>⟨#[],by rw[Z1 (Z3 q hn),q];simp⟩
theorem Un.write (mu:Mut (H x)) (he:e=x\/H e=some (.own x)) (k:∀b u,b≠e->h.get? b=some u->h'.get? b=some u) (heo:∃u,h'.get? e=some u):Un fs ex H (upd H x o) h h':=by
 have hx:∀b,H b=none->b≠x:=fun b n z=>by subst z;rw[n] at mu;exact mu
 have hb:∀b,H b=none->b≠e:=fun b n z=>by
  subst z
  rcases he with r|r
  ·exact hx b n r
  ·rw[n] at r;cases r
 have hm:∀b u,H b=some u->¬Mut (some u)->b≠x:=fun b u q nm z=>by subst z;rw[q] at mu;exact nm mu
 refine⟨fun b u q n _ _=>k b u (hb b n) q,fun b u q n _ _=>⟨u.slots,k b u (hb b n) q⟩,fun b u q n _=>by rw[Z1 (hx b n)];exact n,fun b u q _=>?_,
  fun b xs q=>by rw[Z1 (hm b _ q fun z=>z)];exact q,fun b u xs q=>by rw[Z1 (hm b _ q fun z=>z)];exact q,fun b ps q=>⟨#[],by rw[Z1 (hm b _ q fun z=>z),q];simp⟩⟩
 by_cases hbe:b=e
 ·subst hbe;exact heo
 ·exact⟨u,k b u hbe q⟩
end
noncomputable def trk (h:Heap) (H:Hp):List Addr:=(List.range h.objs.size).filter fun a=>(H a).isSome
noncomputable def Zd9 (h:Heap) (H:Hp):Heap:=PySem.W.hideAll h (trk h H)
theorem Zcy (h:Heap) (H:Hp):(Zd9 h H).objs.size=h.objs.size:=PySem.W.hideAll_size _ _
theorem Zd8 {h:Heap}{H:Hp}{b:Addr}{o:Obj} (e:h.get? b=some o) (n:H b=none):(Zd9 h H).get? b=some o:=
 PySem.W.hideAll_get _ e fun hm=>by
  have q:(H b).isSome=true:=(ZmT.mp hm).2
  rw[n] at q;simp at q
theorem ZeP {h:Heap}{H:Hp}{b:Addr}{o:Obj} (e:(Zd9 h H).get? b=some o):h.get? b=some o/\H b=none:=by
 have e':h.get? b=some o:=PySem.W.of_hideAll (trk h H) e
 refine⟨e', ?_⟩
 cases q:H b with
 |none=>rfl
 |some x =>
  have hm:b∈trk h H:=ZmT.mpr ⟨Zmp.mpr (Heap.lt_size e'),by simp[q]⟩
  have z:(Zd9 h H).get? b=none:=PySem.W.hideAll_none (trk h H) hm
  rw[z] at e;cases e
noncomputable def Zfo (g h:Heap) (L:Addr):List (Addr×Obj):=(List.range h.objs.size).filterMap fun a=>if a=L\/(g.get? a).isSome=true then none else (h.get? a).map fun o=>(a,o)
noncomputable def Zbm (g h:Heap) (L d:Addr):List (Addr×Obj):=(Zfo g h L).filter fun p=>decide (p.1≠d)
structure Mod (K:PySem.W.Frag) (mg:Str->Option Value) (base:Heap):Prop where
 kin:K.In base
 glob:base.Ns mainGlobals mg
 blt:∃mb,base.Ns builtinsNs mb/\∀x:Str,x ≠ "__name__"->mb x=bootBuiltins x
 nolimit:base.NoLimit
structure Cx where
 prog:Program
 w:World
 K:PySem.W.Frag
 mg:Str->Option Value
 base:Heap
 A:Around
 N:List Str
 s₀:Shared
 H₀:Hp
 env:Env
 outer:List Env
 stack:List Env
 ex:List Addr
 fn:Str->Bool
 calm:Bool
 pn:List (Addr×Obj)
 xe:Value->Shared->Prop
noncomputable def frs (l:List Env):List Addr:=l.filterMap (·.frame)
noncomputable abbrev Cx.fs (X:Cx):List Addr:=frs X.outer
def Vis (sc:Scope) (x:Str):Prop:=sc.names.lookup x=some .local\/sc.names.lookup x=some .cell\/sc.names.lookup x=some .free
def Loc (sc:Scope) (x:Str):Prop:=sc.names.lookup x=some .local\/sc.names.lookup x=some .cell
def Zik (env:Env) (h:Heap) (m:Str->Option Value) (x:Str) (u:Value):Prop:=
 (env.kindOf x=some .local/\m x=some u)\/((env.kindOf x=some .cell\/env.kindOf x=some .free)/\∃c,env.cells.lookup x=some c/\h.IsCell c (some u))
structure Cx.Ok (X:Cx):Prop where
 mod:Mod X.K X.mg X.base
 kind:X.env.scope.kind=.function
 glob:X.env.globals=mainGlobals
 blt:X.env.builtins=builtinsNs
 above:X.s₀.heap.objs.size<=X.env.locals
 inj:∀x y c,X.env.cells.lookup x=some c->X.env.cells.lookup y=some c->x=y
 has:∀x,(X.env.kindOf x=some .cell\/X.env.kindOf x=some .free)->∃c,X.env.cells.lookup x=some c
 cab:∀x c,X.fn x=true->X.env.cells.lookup x=some c->X.s₀.heap.objs.size<=c
 hd:X.calm=true->X.A.handled=none
 frames:X.A.frames=some X.stack
 stk:X.stack=X.outer\/(X.stack=X.env::X.outer/\X.env.frame=some X.env.locals)
 exf:∀b∈X.ex,b≠X.env.locals/\∀x c,X.env.cells.lookup x=some c->c≠b
 bs:∀b o,X.base.get? b=some o->X.s₀.heap.get? b=some o/\X.H₀ b=none
 bsz:X.base.objs.size<=X.s₀.heap.objs.size
 noex:∀b o,X.base.get? b=some o->b ∉ X.ex
 exfs:∀b∈X.ex,b ∉ X.fs
 funs:X.s₀.heap.FunFrames X.base X.outer
 frf:∀b∈X.fs,X.H₀ b=none
structure Inv (X:Cx) (pins:List (Addr×Obj)) (σ:List (Option V)) (H:Hp) (s:Shared):Prop where
 ok:X.Ok
 os:s.os=X.s₀.os
 bare:AllBare s.gens
 base:Un X.fs X.ex X.H₀ H X.s₀.heap s.heap
 loc:∃m,s.heap.Ns X.env.locals m/\∀(i:Nat) (x:Str) (v:V),X.N[i]?=some x->σ[i]?=some (some v)->Vis X.env.scope x->∃u,Jq v u/\Zik X.env s.heap m x u
 cell:∀x c,X.env.cells.lookup x=some c->∃v,s.heap.IsCell c v
 free:H X.env.locals=none
 freeC:∀x c,X.env.cells.lookup x=some c->H c=none
 pin:∀p∈X.pn++pins,s.heap.get? p.1=some p.2/\H p.1=none/\p.1≠X.env.locals/\p.1 ∉ X.fs/\∀v,p.2.data≠.cell v
 hok:HOk X.prog X.w H s.heap
 len:σ.length=X.N.length
section
variable {X:Cx}{pins:List (Addr×Obj)}{σ:List (Option V)}{H H':Hp}{s:Shared}{h':Heap}
theorem Cx.Ok.nofr (ok:X.Ok) {b:Addr}{o:Obj} (e:X.base.get? b=some o):b ∉ X.fs:=fun hb=>by
 have:=(ok.funs.mem hb).1
 rw[e] at this;cases this
theorem Inv.bs (I:Inv X pins σ H s):∀b o,X.base.get? b=some o->s.heap.get? b=some o/\H b=none:=fun b o e =>
 ⟨I.base.keep b o (I.ok.bs b o e).1 (I.ok.bs b o e).2 (I.ok.nofr e) (I.ok.noex b o e),I.base.free b o (I.ok.bs b o e).1 (I.ok.bs b o e).2 (I.ok.noex b o e)⟩
theorem Inv.bk (I:Inv X pins σ H s):∀b o,X.base.get? b=some o->s.heap.get? b=some o:=fun b o e=>(I.bs b o e).1
theorem Inv.mod (I:Inv X pins σ H s):Mod X.K X.mg X.base:=I.ok.mod
theorem Inv.kIn (I:Inv X pins σ H s):X.K.In s.heap:=I.ok.mod.kin.keeps I.bk
theorem Inv.lt (I:Inv X pins σ H s):X.env.locals<s.heap.objs.size:=let ⟨_,hn,_⟩:=I.loc;hn.lt
theorem Inv.sz (I:Inv X pins σ H s):X.s₀.heap.objs.size<=s.heap.objs.size:=Zml I.ok.above (Zns I.lt)
theorem Inv.nofs (I:Inv X pins σ H s) {a:Addr} (h:s.heap.objs.size<=a):a ∉ X.fs:=fun hb=>by
 obtain⟨_,o,ho,_⟩:=I.ok.funs.mem hb
 exact absurd (ZlX (Heap.lt_size ho) (Zml I.sz h)) (Zmu _)
theorem Inv.cne (I:Inv X pins σ H s):∀x c,X.env.cells.lookup x=some c->c≠X.env.locals:=fun x c e z=>by
 obtain⟨v,o,ho,hd⟩:=I.cell x c e
 obtain⟨m,⟨o',es,ep,ho',hd',_⟩,_⟩:=I.loc
 rw[z,ho'] at ho;cases ho;rw[hd'] at hd;cases hd
theorem Inv.funs (I:Inv X pins σ H s):s.heap.FunFrames X.base X.outer:=by
 have all:∀(l:List Env),(∀b∈frs l,b∈X.fs)->X.s₀.heap.FunFrames X.base l->s.heap.FunFrames X.base l:=by
  intro l
  induction l with
  |nil=>intro _ _;trivial
  |cons env r ih =>
   intro hs hl
   obtain⟨hk,⟨L,o,hf,hn,ho,hd⟩,hr⟩:=hl
   have hL:L∈X.fs:=hs L (by unfold frs;rw[Znh,hf];exact ZmU)
   obtain⟨sl,e⟩:=I.base.slot L o ho (I.ok.frf L hL) hL fun z=>I.ok.exfs L z hL
   exact⟨hk,⟨L,_,hf,hn,e,hd⟩,ih (fun b hb=>hs b (by unfold frs;rw[Znh,hf];exact Zm2 _ hb)) hr⟩
 exact all X.outer (fun _ hb=>hb) I.ok.funs
theorem Inv.stack (I:Inv X pins σ H s):s.heap.FunFrames X.base X.stack:=by
 rcases I.ok.stk with e|⟨e,hf⟩
 ·rw[e];exact I.funs
 ·rw[e]
  obtain⟨m,hn,_⟩:=I.loc
  refine .cons (by rw[I.ok.kind];decide) hf hn ?_ I.funs
  exact Heap.get?_none_of_le (Zml I.ok.bsz I.ok.above)
theorem Inv.stkSub (I:Inv X pins σ H s):∀b∈frs X.stack,b∈X.env.locals::X.fs:=fun b hb=>by
 rcases I.ok.stk with e|⟨e,hf⟩
 ·rw[e] at hb;exact Zm2 _ hb
 ·rw[e] at hb
  unfold frs at hb
  rw[Znh,hf] at hb
  exact hb
theorem Inv.stkFree (I:Inv X pins σ H s):∀b∈frs X.stack,H b=none:=fun b hb=>by
 rcases Zmf.mp (I.stkSub b hb) with e|hb
 ·rw[e];exact I.free
 ·obtain⟨_,o,ho,_⟩:=I.ok.funs.mem hb
  exact I.base.free b o ho (I.ok.frf b hb) fun z=>I.ok.exfs b z hb
theorem Inv.step {g':Array GenState}{t':Nat}{d':Drawn}{ch:List Addr} (I:Inv X pins σ H s)
  (hch:∀b∈ch,(b∈X.ex\/X.s₀.heap.objs.size<=b)/\b≠X.env.locals/\(∀x c,X.env.cells.lookup x=some c->c≠b)/\∀p∈X.pn++pins,p.1≠b)
  (keep:∀b o,b≠X.env.locals->b ∉ X.fs->b ∉ ch->s.heap.get? b=some o->H b=none->h'.get? b=some o)
  (slot:∀b o,b≠X.env.locals->b∈X.fs->b ∉ ch->s.heap.get? b=some o->H b=none->∃sl,h'.get? b=some { o with slots:=sl }) (free:∀b o,b ∉ ch->s.heap.get? b=some o->H b=none->H' b=none)
  (there:∀b o,b ∉ ch->s.heap.get? b=some o->∃o',h'.get? b=some o')
  (tups:∀b xs,H b=some (.tup xs)->H' b=some (.tup xs)) (frzs:∀b o u,H b=some (.frz o u)->H' b=some (.frz o u)) (tbls:∀b ps,H b=some (.tbl ps)->∃more,H' b=some (.tbl (ps++more)))
  (ns:∀m,s.heap.Ns X.env.locals m->h'.Ns X.env.locals m) (hok:HOk X.prog X.w H' h') (hg:AllBare g') :
  Inv X pins σ H' { s with heap:=h',gens:=g',drawn:=d',toks:=t' }:=by
 have neL:∀b o,X.s₀.heap.get? b=some o->b≠X.env.locals:=fun b o e=>Zmk (ZlX (Heap.lt_size e) I.ok.above)
 have neC:∀b o,X.s₀.heap.get? b=some o->b ∉ X.ex->b ∉ ch:=fun b o e hx hb=>by
  rcases (hch b hb).1 with z|z
  ·exact hx z
  ·exact absurd (ZlX (Heap.lt_size e) z) (Zmu _)
 have cellK:∀x c,X.env.cells.lookup x=some c->∀v,s.heap.IsCell c v->h'.IsCell c v:=fun x c e v ⟨o,ho,hd⟩=>by
  have nch:c ∉ ch:=fun z=>(hch c z).2.2.1 x c e rfl
  by_cases hc:c∈X.fs
  ·obtain⟨sl,q⟩:=slot c o (I.cne x c e) hc nch ho (I.freeC x c e)
   exact⟨_,q,hd⟩
  ·exact⟨o,keep c o (I.cne x c e) hc nch ho (I.freeC x c e),hd⟩
 refine⟨I.ok,I.os,hg,⟨fun b o e n hb hx=>?_,fun b o e n hb hx=>?_,fun b o e n hx=>?_,fun b o e hx=>?_,fun b xs e=>tups b xs (I.base.tups b xs e),fun b o xs e=>frzs b o xs (I.base.frzs b o xs e),fun b ps e=>?_⟩, ?_,fun x c e=>?_, ?_,fun x c e=>?_,fun p hp=>?_,hok,I.len⟩
 ·exact keep b o (neL b o e) hb (neC b o e hx) (I.base.keep b o e n hb hx) (I.base.free b o e n hx)
 ·obtain⟨sl,e1⟩:=I.base.slot b o e n hb hx
  obtain⟨sl',e2⟩:=slot b _ (neL b o e) hb (neC b o e hx) e1 (I.base.free b o e n hx)
  exact⟨sl',e2⟩
 ·obtain⟨o',e1⟩:=I.base.there b o e hx
  exact free b o' (neC b o e hx) e1 (I.base.free b o e n hx)
 ·obtain⟨o',e1⟩:=I.base.there b o e hx
  exact there b o' (neC b o e hx) e1
 ·obtain⟨m1,e1⟩:=I.base.tbls b ps e
  obtain⟨m2,e2⟩:=tbls b _ e1
  exact⟨m1++m2,by rw[e2,Array.append_assoc]⟩
 ·obtain⟨m,hn,hl⟩:=I.loc
  refine⟨m,ns m hn,fun i x v e1 e2 e3=>?_⟩
  obtain⟨u,r,l⟩:=hl i x v e1 e2 e3
  refine⟨u,r, ?_⟩
  rcases l with l|⟨k,c,e,z⟩
  ·exact .inl l
  ·exact .inr ⟨k,c,e,cellK x c e _ z⟩
 ·obtain⟨v,z⟩:=I.cell x c e
  exact⟨v,cellK x c e v z⟩
 ·obtain⟨m,⟨o,_,_,ho,_⟩,_⟩:=I.loc
  exact free _ o (fun z=>(hch _ z).2.1 rfl) ho I.free
 ·obtain⟨v,o,ho,hd⟩:=I.cell x c e
  exact free c o (fun z=>(hch c z).2.2.1 x c e rfl) ho (I.freeC x c e)
 ·obtain⟨e,n,ne,nf,d⟩:=I.pin p hp
  have nch:p.1 ∉ ch:=fun z=>(hch p.1 z).2.2.2 p hp rfl
  exact⟨keep p.1 p.2 ne nf nch e n,free p.1 p.2 nch e n,ne,nf,d⟩
theorem Inv.un {t':Nat} (I:Inv X pins σ H s) (u:Un X.fs [] H H' s.heap h') (hok:HOk X.prog X.w H' h'):Inv X pins σ H' { s with heap:=h',toks:=t' }:=by
 obtain⟨m,⟨o,es,ep,ho,r⟩,_⟩:=id I.loc
 obtain⟨sl,hL⟩:=u.any ho I.free (by simp)
 exact I.step (g':=s.gens) (d':=s.drawn) (ch:=[]) (fun _ z=>nomatch z) (fun b o _ hb _ e n=>u.keep b o e n hb (by simp)) (fun b o _ hb _ e n=>u.slot b o e n hb (by simp)) (fun b o _ e n=>u.free b o e n (by simp)) (fun b o _ e=>u.there b o e (by simp)) u.tups u.frzs u.tbls (fun m' hm=>by
  obtain⟨o',es',ep',ho',r'⟩:=hm
  rw[ho] at ho';cases ho'
  exact⟨_,es',ep',hL,r'⟩) hok I.bare
theorem Inv.call {g':Array GenState}{t':Nat}{d':Drawn}{ch:List Addr} (I:Inv X pins σ H s) (u:Un (frs X.stack) ch H H' s.heap h') (hok:HOk X.prog X.w H' h') (hg:AllBare g')
  (hch:∀b∈ch,(b∈X.ex\/X.s₀.heap.objs.size<=b)/\b≠X.env.locals/\(∀x c,X.env.cells.lookup x=some c->c≠b)/\∀p∈X.pn++pins,p.1≠b) :
  Inv X pins σ H' { s with heap:=h',gens:=g',drawn:=d',toks:=t' }:=by
 obtain⟨m,⟨o,es,ep,ho,r⟩,_⟩:=id I.loc
 obtain⟨sl,hL⟩:=u.any ho I.free fun z=>(hch _ z).2.1 rfl
 exact I.step (ch:=ch) hch (fun b o hL hb hc e n=>u.keep b o e n (fun z=>(Zmf.mp (I.stkSub b z)).elim hL hb) hc) (fun b o _ _ hc e n=>u.any e n hc) (fun b o hc e n=>u.free b o e n hc) (fun b o hc e=>u.there b o e hc) u.tups u.frzs u.tbls (fun m' hm=>by
  obtain⟨o',es',ep',ho',r'⟩:=hm
  rw[ho] at ho';cases ho'
  exact⟨_,es',ep',hL,r'⟩) hok hg
theorem Inv.turned {t':Nat}{it:Addr} (I:Inv X pins σ H s) (k:∀b o,b≠it->s.heap.get? b=some o->h'.get? b=some o) (hn:H it=none) (hL:it≠X.env.locals)
  (h1:it∈X.ex\/X.s₀.heap.objs.size<=it) (h2:∀x c,X.env.cells.lookup x=some c->c≠it) (h3:∀p∈X.pn++pins,p.1≠it):Inv X pins σ H { s with heap:=h',toks:=t' }:=by
 have nit:∀b u,H b=some u->b≠it:=fun b u e z=>by rw[z,hn] at e;cases e
 refine I.step (g':=s.gens) (d':=s.drawn) (ch:=[it]) (fun b hb=>?_) (fun b o _ _ hc e _=>k b o (fun z=>hc (by simp[z])) e) (fun b o _ _ hc e _=>⟨o.slots,k b o (fun z=>hc (by simp[z])) e⟩) (fun _ _ _ _ n=>n)
  (fun b o hc e=>⟨o,k b o (fun z=>hc (by simp[z])) e⟩) (fun _ _ e=>e) (fun _ _ _ e=>e) (fun b ps e=>⟨#[],by rw[e];simp⟩) (fun m hm=>?_) (fun b u e=>?_) I.bare
 ·have e:b=it:=by simpa using hb
  subst e
  exact⟨h1,hL,h2,h3⟩
 ·obtain⟨o,es,ep,ho,r⟩:=hm
  exact⟨o,es,ep,k _ o (Ne.symm hL) ho,r⟩
 ·refine(I.hok b u e).stay (fun c v hc q=>k c v ?_ q) (fun _ q=>q) fun _ _ q=>q
  rcases hc with z|z
  ·rw[z];exact nit b u e
  ·exact nit c _ z
theorem Inv.tok (I:Inv X pins σ H s) (t:Nat):Inv X pins σ H { s with toks:=t }:=I.un (h':=s.heap) (t':=t) Un.refl I.hok
theorem Inv.kept {t':Nat} (I:Inv X pins σ H s) (k:∀b u,s.heap.get? b=some u->h'.get? b=some u):Inv X pins σ H { s with heap:=h',toks:=t' }:=I.un (Un.kept k) (I.hok.kept k)
theorem Inv.laid {a:Addr}{o:HO}{t':Nat} (I:Inv X pins σ H s) (k:∀b u,s.heap.get? b=some u->h'.get? b=some u) (hp:s.heap.objs.size<=a) (new:Vk X.prog X.w (upd H a o) h' a o) :
  Inv X pins σ (upd H a o) { s with heap:=h',toks:=t' }:=I.un (Un.laid k hp (I.hok.fresh hp)) (I.hok.laid k hp new)
theorem Inv.write {x e:Addr}{o:HO}{t':Nat} (I:Inv X pins σ H s) (mu:Mut (H x)) (he:e=x\/H e=some (.own x)) (k:∀b u,b≠e->s.heap.get? b=some u->h'.get? b=some u) (heo:∃u,h'.get? e=some u)
  (new:Vk X.prog X.w (upd H x o) h' x o):Inv X pins σ (upd H x o) { s with heap:=h',toks:=t' }:=I.un (Un.write mu he k heo) (I.hok.write mu he k heo new)
theorem Inv.pins_of {pins':List (Addr×Obj)} (I:Inv X pins σ H s) (h:∀p∈pins',s.heap.get? p.1=some p.2/\H p.1=none/\p.1≠X.env.locals/\p.1 ∉ X.fs/\∀v,p.2.data≠.cell v):Inv X pins' σ H s:=
 ⟨I.ok,I.os,I.bare,I.base,I.loc,I.cell,I.free,I.freeC,fun p hp=>(Zma.mp hp).elim (fun z=>I.pin p (Zmb _ z)) (h p),I.hok,I.len⟩
theorem Za7 {N:List Str} (hN:N.Nodup) {i j:Nat}{x:Str} (a:N[i]?=some x) (b:N[j]?=some x):i=j:=by
 obtain⟨h1,e1⟩:=Zms.mp a
 obtain⟨h2,e2⟩:=Zms.mp b
 exact(List.getElem_inj hN).mp (e1.trans e2.symm)
theorem Ue {M:Model}{A:Around}{E:Value->Shared->Prop}{i:Nat}{x:Str}{v:V}{u:Value}{Q:Unit->Shared->Prop} (I:Inv X pins σ H s) (hN:X.N.Nodup) (hi:X.N[i]?=some x) (hx:Loc X.env.scope x) (r:Jq v u)
  (h:∀s',Inv X pins (σ.set i (some v)) H s'->(∃a,Heap.SameBut a s.heap s'.heap/\(a=X.env.locals\/X.env.cells.lookup x=some a))->Q () s') (hf:X.fn x=true\/X.env.scope.names.lookup x=some .local):wpAny M A (storeName X.env x u) Q E s:=by
 obtain⟨m,hn,hl⟩:=id I.loc
 have hcls:(X.env.scope.kind==.class || (X.env.scope.kind==.module&&X.env.locals != X.env.globals))=false:=by rw[I.ok.kind];rfl
 have hiσ:i<σ.length:=by rw[I.len];exact(Zms.mp hi).1
 have cne:=I.cne
 have tracked:∀{a:Addr}{h':Heap},(∃o,s.heap.get? a=some o/\H a=none)->Heap.SameBut a s.heap h'->HOk X.prog X.w H h':=fun {a h'} ha hs b ob e=>by
  obtain⟨_,_,hfree⟩:=ha
  refine(I.hok b ob e).stay (fun c w' hc q=>(hs.2 c ?_).trans q) (fun _ q=>q) fun _ _ q=>q
  rintro rfl
  rcases hc with rfl|hc
  ·rw[hfree] at e;cases e
  ·rw[hfree] at hc;cases hc
 rcases hx with hk|hk
 ·refine wpAny_storeName_local hk hn (fun h' hn' hs=>?_) hcls
  obtain⟨oL,_,_,hoL,_⟩:=id hn
  refine h _ ⟨I.ok,I.os,I.bare,⟨fun b o e n hb hx=>?_,fun b o e n hb hx=>?_,I.base.free,fun b o e hx=>?_,I.base.tups,I.base.frzs,I.base.tbls⟩,⟨_,hn',fun j y v' e1 e2 e3=>?_⟩,fun y c e=>?_,I.free,I.freeC,fun p hp=>?_,tracked ⟨oL,hoL,I.free⟩ hs,by simpa using I.len⟩ ⟨_,hs,.inl rfl⟩
  ·exact(hs.2 b (Zmk (ZlX (Heap.lt_size e) I.ok.above))).trans (I.base.keep b o e n hb hx)
  ·obtain⟨sl,e1⟩:=I.base.slot b o e n hb hx
   exact⟨sl,(hs.2 b (Zmk (ZlX (Heap.lt_size e) I.ok.above))).trans e1⟩
  ·obtain⟨o',e1⟩:=I.base.there b o e hx
   exact⟨o',(hs.2 b (Zmk (ZlX (Heap.lt_size e) I.ok.above))).trans e1⟩
  ·by_cases hj:j=i
   ·subst hj
    rw[hi] at e1;cases e1
    rw[Zmo hiσ] at e2
    cases e2
    exact⟨u,r,.inl ⟨hk,by simp⟩⟩
   ·rw[Zmt (Ne.symm hj)] at e2
    obtain⟨u',r',q⟩:=hl j y v' e1 e2 e3
    refine⟨u',r', ?_⟩
    rcases q with ⟨k,e⟩|⟨k,c,e,z⟩
    ·refine .inl ⟨k, ?_⟩
     have:y≠x:=fun e=>hj (Za7 hN e1 (e▸hi))
     simp[this,e]
    ·exact .inr ⟨k,c,e,z.sameBut hs (cne y c e)⟩
  ·obtain⟨w',z⟩:=I.cell y c e
   exact⟨w',z.sameBut hs (cne y c e)⟩
  ·obtain⟨e,n,ne,nf,d⟩:=I.pin p hp
   exact⟨(hs.2 p.1 ne).trans e,n,ne,nf,d⟩
 ·have hfn:X.fn x=true:=by
   rcases hf with z|z
   ·exact z
   ·rw[z] at hk;cases hk
  obtain⟨c,hc⟩:=I.ok.has x (.inl hk)
  obtain⟨w',z⟩:=I.cell x c hc
  refine wpAny_storeName_cell I.ok.kind hk hc z (fun h' hc' hs=>?_)
  obtain⟨oc,hoc,hocd⟩:=id z
  refine h { s with heap:=h' } ⟨I.ok,I.os,I.bare,⟨fun b o e n hb hx=>?_,fun b o e n hb hx=>?_,I.base.free,fun b o e hx=>?_,I.base.tups,I.base.frzs,I.base.tbls⟩,⟨m,hn.sameBut hs (Ne.symm (cne x c hc)),fun j y v' e1 e2 e3=>?_⟩,fun y c' e=>?_,I.free,I.freeC,fun p hp=>?_,tracked ⟨oc,hoc,I.freeC x c hc⟩ hs,by simpa using I.len⟩ ⟨c,hs,.inr hc⟩
  ·exact(hs.2 b (Zmk (ZlX (Heap.lt_size e) (I.ok.cab x c hfn hc)))).trans (I.base.keep b o e n hb hx)
  ·obtain⟨sl,e1⟩:=I.base.slot b o e n hb hx
   exact⟨sl,(hs.2 b (Zmk (ZlX (Heap.lt_size e) (I.ok.cab x c hfn hc)))).trans e1⟩
  ·obtain⟨o',e1⟩:=I.base.there b o e hx
   exact⟨o',(hs.2 b (Zmk (ZlX (Heap.lt_size e) (I.ok.cab x c hfn hc)))).trans e1⟩
  ·by_cases hj:j=i
   ·subst hj
    rw[hi] at e1;cases e1
    rw[Zmo hiσ] at e2
    cases e2
    exact⟨u,r,.inr ⟨.inl hk,c,hc,hc'⟩⟩
   ·rw[Zmt (Ne.symm hj)] at e2
    obtain⟨u',r',q⟩:=hl j y v' e1 e2 e3
    refine⟨u',r', ?_⟩
    rcases q with q|⟨k,c',e,z'⟩
    ·exact .inl q
    ·refine .inr ⟨k,c',e,z'.sameBut hs ?_⟩
     rintro rfl
     exact hj (Za7 hN e1 (I.ok.inj _ _ _ e hc▸hi))
  ·by_cases hcc:c'=c
   ·subst hcc;exact⟨_,hc'⟩
   ·obtain⟨w2,z2⟩:=I.cell y c' e
    exact⟨w2,z2.sameBut hs hcc⟩
  ·obtain⟨e,n,ne,nf,d⟩:=I.pin p hp
   refine⟨(hs.2 p.1 ?_).trans e,n,ne,nf,d⟩
   intro q
   rw[q,hoc] at e
   have q':oc=p.2:=Option.some.inj e
   exact d w' (by rw[<- q'];exact hocd)
theorem VQ {M:Model}{A:Around}{E:Value->Shared->Prop}{i:Nat}{x:Str}{v:V}{u:Value}{Q:Unit->Shared->Prop} (I:Inv X pins σ H s) (hN:X.N.Nodup) (hi:X.N[i]?=some x) (hx:Loc X.env.scope x) (r:Jq v u)
  (h:∀s',Inv X pins (σ.set i (some v)) H s'->Q () s') (hf:X.fn x=true\/X.env.scope.names.lookup x=some .local):wpAny M A (storeName X.env x u) Q E s:=
 Ue I hN hi hx r (fun s' I' _=>h s' I') hf
theorem Inv.call' {s':Shared}{ch:List Addr} (I:Inv X pins σ H s) (ho:s'.os=s.os) (u:Un (frs X.stack) ch H H' s.heap s'.heap) (hok:HOk X.prog X.w H' s'.heap) (hg:AllBare s'.gens)
  (hch:∀b∈ch,(b∈X.ex\/X.s₀.heap.objs.size<=b)/\b≠X.env.locals/\(∀x c,X.env.cells.lookup x=some c->c≠b)/\∀p∈X.pn++pins,p.1≠b):Inv X pins σ H' s':=by
 obtain⟨h',g',d',t',o'⟩:=s'
 have e:o'=s.os:=ho
 subst e
 exact I.call (g':=g') (t':=t') (d':=d') u hok hg hch
end
noncomputable abbrev XK:=Value->Option Addr->Hp->Prop
noncomputable abbrev St:=List (Option V)
noncomputable abbrev VK:=V->Hp->Prop
noncomputable abbrev TE:=St->Hp->VK->Prop
noncomputable abbrev TT:=St->Hp->(Bool->Hp->Prop)->Prop
noncomputable abbrev TA:=St->Hp->(List V->Hp->Prop)->Prop
structure ZdM where
 nx:St->Hp->Prop
 rt:VK
 bk:St->Hp->Prop:=fun _ _=>False
 ct:St->Hp->Prop:=fun _ _=>False
noncomputable abbrev TS:=ZdM->St->Hp->Prop
def EP (X:Cx) (pins:List (Addr×Obj)) (σ:St) (Q:VK) (u:Value) (s':Shared):Prop:=∃v H',Inv X pins σ H' s'/\Jq v u/\Q v H'
def TP (X:Cx) (pins:List (Addr×Obj)) (σ:St) (Q:Bool->Hp->Prop) (b:Bool) (s':Shared):Prop:=∃H',Inv X pins σ H' s'/\Q b H'
def AP (X:Cx) (pins:List (Addr×Obj)) (σ:St) (Q:List V->Hp->Prop) (us:List Value) (s':Shared):Prop:=∃vs H',Inv X pins σ H' s'/\ZZ vs us/\Q vs H'
def SP (X:Cx) (pins:List (Addr×Obj)) (D:ZdM) (f:Flow) (s':Shared):Prop:=
 match f with
 |.next=>∃σ' H',Inv X pins σ' H' s'/\D.nx σ' H'
 |.brk=>∃σ' H',Inv X pins σ' H' s'/\D.bk σ' H'
 |.cont=>∃σ' H',Inv X pins σ' H' s'/\D.ct σ' H'
 |.ret u=>∃v σ' H',Inv X pins σ' H' s'/\Jq v u/\D.rt v H'
def PE (X:Cx) (e:Expr) (t:TE):Prop:=
 ∀(pins:List (Addr×Obj)) (s:Shared) (σ:St) (H:Hp) (Q:VK),Inv X pins σ H s->t σ H Q->wpAny (model X.prog X.w) X.A (eval e X.env) (EP X pins σ Q) X.xe s
def PT (X:Cx) (e:Expr) (t:TT):Prop:=
 ∀(pins:List (Addr×Obj)) (s:Shared) (σ:St) (H:Hp) (Q:Bool->Hp->Prop),Inv X pins σ H s->t σ H Q->wpAny (model X.prog X.w) X.A (isTrue e X.env (eval e X.env)) (TP X pins σ Q) X.xe s
def PW (X:Cx) (e:Expr) (t:TT):Prop:=
 ∀(whole:Sem Value) (pins:List (Addr×Obj)) (s:Shared) (σ:St) (H:Hp) (Q:Bool->Hp->Prop),Inv X pins σ H s->t σ H Q->wpAny (model X.prog X.w) X.A (isTrue e X.env whole) (TP X pins σ Q) X.xe s
theorem PW.pt {X:Cx}{e:Expr}{t:TT} (h:PW X e t):PT X e t:=h _
def PA (X:Cx) (es:List Expr) (t:TA):Prop:=
 ∀(pos:Pos) (pins:List (Addr×Obj)) (s:Shared) (σ:St) (H:Hp) (Q:List V->Hp->Prop),Inv X pins σ H s->t σ H Q->wpAny (model X.prog X.w) X.A (spliced (backTo pos (starEach es X.env))) (AP X pins σ Q) X.xe s
def PS (X:Cx) (st:Stmt) (t:TS):Prop:=
 ∀(pins:List (Addr×Obj)) (s:Shared) (σ:St) (H:Hp) (D:ZdM),Inv X pins σ H s->t D σ H->wpAny (model X.prog X.w) X.A (exec st X.env) (SP X pins D) X.xe s
def PSs (X:Cx) (st:List Stmt) (t:TS):Prop:=
 ∀(pins:List (Addr×Obj)) (s:Shared) (σ:St) (H:Hp) (D:ZdM),Inv X pins σ H s->t D σ H->wpAny (model X.prog X.w) X.A (execs st X.env) (SP X pins D) X.xe s
theorem thn {α:Type}{t:Sem α}{Q Q':α->Shared->Prop}{M:Model}{A:Around}{E:Value->Shared->Prop}{s:Shared} (h:wpAny M A t Q E s) (hQ:∀a s,Q a s->Q' a s):wpAny M A t Q' E s:=wpAny_mono h hQ fun _ _ x=>x
section
variable {X:Cx}
noncomputable def Zbl (i:Nat):TE:=fun σ H Q=>∃v,σ[i]?=some (some v)/\Q v H
noncomputable def tC (v:V):TE:=fun _ H Q=>Q v H
theorem ZfH {i:Nat}{x:Str}{pos:Pos} (hN:X.N[i]?=some x) (hv:Vis X.env.scope x) (hd:(x==("__debug__":Str))=false:=by decide) (hcd:(x==("__classdict__":Str))=false:=by decide):PE X (.Name x pos) (Zbl i):=by
 intro pins s σ H Q I h
 obtain⟨v,e,h⟩:=h
 obtain⟨m,hn,hl⟩:=I.loc
 obtain⟨u,r,l⟩:=hl i x v hN e hv
 have fin:EP X pins σ Q u s:=⟨v,H,I,r,h⟩
 rcases l with ⟨hk,hm⟩|⟨hk,c,hc,hcell⟩
 ·exact wpAny_Name (wpAny_loadName_local I.ok.kind hk hn hm fin) hd
 ·rcases hk with hk|hk
  ·exact wpAny_Name (wpAny_loadName_cell I.ok.kind hk hc hcell fin) hd
  ·exact wpAny_Name (wpAny_loadName_free I.ok.kind hk hc hcell fin hcd) hd
theorem Zc {i j pos}:PE X (.Constant (.int i) j pos) (tC (.int i)):=fun _ _ _ H _ I h=>wpAny_Constant_int ⟨.int i,H,I.tok _,⟨_,rfl⟩,h⟩
theorem V5 {b j pos}:PE X (.Constant (.bool b) j pos) (tC (.bl b)):=fun _ _ _ H _ I h=>Constant_bool ⟨.bl b,H,I,rfl,h⟩
theorem Zay {j pos}:PE X (.Constant .none j pos) (tC .non):=fun _ _ _ H _ I h=>Constant_none ⟨.non,H,I,rfl,h⟩
theorem ZdX {x j pos}:PE X (.Constant (.str x) j pos) (tC (.str x)):=fun _ _ _ H _ I h=>Calls.Constant_str ⟨.str x,H,I.tok _,⟨_,rfl⟩,h⟩
def Gl (X:Cx) (x:Str):Prop:=X.env.kindOf x=some .globalImplicit
theorem UU {E:Value->Shared->Prop}{pins:List (Addr×Obj)}{s:Shared}{σ:St}{H:Hp}{x:Str}{u:Value}{pos:Pos}{Q:Value->Shared->Prop} (I:Inv X pins σ H s) (hg:Gl X x) (hm:X.mg x=some u) (h:Q u s)
  (hd:(x==("__debug__":Str))=false:=by decide):wpAny (model X.prog X.w) X.A (eval (.Name x pos) X.env) Q E s:=
 Calls.Name_function_global I.ok.kind hg (Calls.loadGlobal_global (by rw[I.ok.glob];exact I.mod.glob.keeps I.bk) hm h) hd
theorem UA {E:Value->Shared->Prop}{pins:List (Addr×Obj)}{s:Shared}{σ:St}{H:Hp}{x:Str}{u:Value}{pos:Pos}{Q:Value->Shared->Prop} (I:Inv X pins σ H s) (hg:Gl X x) (hm:X.mg x=none) (hv:bootBuiltins x=some u) (h:Q u s)
  (hn:x ≠ "__name__":=by decide) (hd:(x==("__debug__":Str))=false:=by decide):wpAny (model X.prog X.w) X.A (eval (.Name x pos) X.env) Q E s:=by
 obtain⟨mb,h1,h2⟩:=I.mod.blt
 exact Calls.Name_function_global I.ok.kind hg (Calls.loadGlobal_builtin (by rw[I.ok.glob];exact I.mod.glob.keeps I.bk) hm (by rw[I.ok.blt];exact h1.keeps I.bk) ((h2 x hn).trans hv) h) hd
theorem Ze7 {x:Str}{v:V}{u:Value}{pos:Pos} (hg:Gl X x) (hm:X.mg x=some u) (r:Jq v u) (hd:(x==("__debug__":Str))=false:=by decide):PE X (.Name x pos) (tC v):=
 fun _ _ _ H _ I h=>UU I hg hm ⟨v,H,I,r,h⟩ hd
theorem JQ {x:Str}{v:V}{u:Value}{pos:Pos} (hg:Gl X x) (hm:X.mg x=none) (hv:bootBuiltins x=some u) (r:Jq v u) (hn:x ≠ "__name__":=by decide) (hd:(x==("__debug__":Str))=false:=by decide):PE X (.Name x pos) (tC v):=
 fun _ _ _ H _ I h=>UA I hg hm hv ⟨v,H,I,r,h⟩ hn hd
variable {a b:Expr}{ta tb:TE}{pos:Pos}
noncomputable def tB (t:TE):TT:=fun σ H Q=>t σ H fun x H1=>∃c,x=.bl c/\Q c H1
theorem JJ {e:Expr}{t:TE} (h:PE X e t) (he:∀whole,isTrue e X.env whole=(do let v <- whole;standAt e.pos;holding [v] (truthy v)):=by exact fun _=>rfl):PT X e (tB t):=by
 intro pins s σ H Q I hw
 refine isTrue_plain (thn (h pins s σ H _ I hw) fun v s1 ⟨x,H1,I1,r1,q1⟩=>?_) (he _)
 obtain⟨d,rfl,q⟩:=q1
 cases r1
 exact wpAny_truthy_bool ⟨H1,I1,q⟩
variable {tA tB':TT}{Zbm:List Expr}
noncomputable def Zh7 (t u:TT):TT:=fun σ H Q=>t σ H fun c H1=>if c=true then u σ H1 Q else Q false H1
noncomputable def tOr (t u:TT):TT:=fun σ H Q=>t σ H fun c H1=>if c=true then Q true H1 else u σ H1 Q
noncomputable def Zh2 (t:TT):TT:=fun σ H Q=>t σ H fun c H1=>Q (!c) H1
theorem Vc (ha:PT X a tA):PW X (.BoolOp .And [a] pos) tA:=by
 intro wh pins s σ H Q I h
 refine isTrue_and (thn (ha pins s σ H Q I h) fun c s1 e=>?_)
 cases c with
 |true=>exact isTrue_and_nil e
 |false=>exact e
theorem Vl (ha:PT X a tA):PW X (.BoolOp .Or [a] pos) tA:=by
 intro wh pins s σ H Q I h
 refine isTrue_or (thn (ha pins s σ H Q I h) fun c s1 e=>?_)
 cases c with
 |false=>exact isTrue_or_nil e
 |true=>exact e
theorem Uh (ha:PT X a tA) (hb:PW X (.BoolOp .And (b::Zbm) pos) tB'):PW X (.BoolOp .And (a::b::Zbm) pos) (Zh7 tA tB'):=by
 intro wh pins s σ H Q I h
 refine isTrue_and (thn (ha pins s σ H _ I h) fun c s1 ⟨H1,I1,q1⟩=>?_)
 cases c with
 |true=>exact hb wh pins s1 σ H1 Q I1 q1
 |false=>exact⟨H1,I1,q1⟩
theorem V3 (ha:PT X a tA) (hb:PW X (.BoolOp .Or (b::Zbm) pos) tB'):PW X (.BoolOp .Or (a::b::Zbm) pos) (tOr tA tB'):=by
 intro wh pins s σ H Q I h
 refine isTrue_or (thn (ha pins s σ H _ I h) fun c s1 ⟨H1,I1,q1⟩=>?_)
 cases c with
 |true=>exact⟨H1,I1,q1⟩
 |false=>exact hb wh pins s1 σ H1 Q I1 q1
theorem J6 (ha:PT X a tA):PT X (.UnaryOp .Not a pos) (Zh2 tA):=by
 intro pins s σ H Q I h
 exact isTrue_not (ha pins s σ H (fun c H1=>Q (!c) H1) I h)
noncomputable def Zf8 (ta tb:TE):TE:=fun σ H Q=>ta σ H fun x H1=>∃c,x=.bl c/\if c=true then tb σ H1 Q else Q (.bl false) H1
noncomputable def Zh1 (ta tb:TE):TE:=fun σ H Q=>ta σ H fun x H1=>∃c,x=.bl c/\if c=true then Q (.bl true) H1 else tb σ H1 Q
noncomputable def Zf4 (ta:TE):TE:=fun σ H Q=>ta σ H fun x H1=>∃c,x=.bl c/\Q (.bl (!c)) H1
theorem Uj {op}{t:TE} (h:PE X a t):PE X (.BoolOp op [a] pos) t:=fun pins s σ H Q I hw=>BoolOp_one (h pins s σ H Q I hw)
theorem U7 (ha:PE X a ta) (hb:PE X (.BoolOp .And (b::Zbm) pos) tb):PE X (.BoolOp .And (a::b::Zbm) pos) (Zf8 ta tb):=by
 intro pins s σ H Q I h
 refine BoolOp_and (thn (ha pins s σ H _ I h) fun v s1 ⟨x,H1,I1,r1,q1⟩=>?_)
 obtain⟨c,rfl,q1⟩:=q1
 cases r1
 refine wpAny_truthy_bool ?_
 cases c with
 |true=>exact hb pins s1 σ H1 Q I1 q1
 |false=>exact⟨.bl false,H1,I1,rfl,q1⟩
theorem Zhc (ha:PE X a ta) (hb:PE X (.BoolOp .Or (b::Zbm) pos) tb):PE X (.BoolOp .Or (a::b::Zbm) pos) (Zh1 ta tb):=by
 intro pins s σ H Q I h
 refine BoolOp_or (thn (ha pins s σ H _ I h) fun v s1 ⟨x,H1,I1,r1,q1⟩=>?_)
 obtain⟨c,rfl,q1⟩:=q1
 cases r1
 refine wpAny_truthy_bool ?_
 cases c with
 |false=>exact hb pins s1 σ H1 Q I1 q1
 |true=>exact⟨.bl true,H1,I1,rfl,q1⟩
theorem ZdY (ha:PE X a ta):PE X (.UnaryOp .Not a pos) (Zf4 ta):=by
 intro pins s σ H Q I h
 refine UnaryOp_ (thn (ha pins s σ H _ I h) fun v s1 ⟨x,H1,I1,r1,q1⟩=>?_)
 obtain⟨c,rfl,q1⟩:=q1
 cases r1
 exact not_of (wpAny_truthy_bool ⟨.bl (!c),H1,I1,rfl,q1⟩)
noncomputable def tIf (t:TT) (ta tb:TE):TE:=fun σ H Q=>t σ H fun c H1=>if c=true then ta σ H1 Q else tb σ H1 Q
theorem Zda {c:Expr} (hc:PT X c tA) (ha:PE X a ta) (hb:PE X b tb):PE X (.IfExp c a b pos) (tIf tA ta tb):=by
 intro pins s σ H Q I h
 refine wpAny_IfExp (thn (hc pins s σ H _ I h) fun d s1 ⟨H1,I1,q1⟩=>?_)
 cases d with
 |true=>exact ha pins s1 σ H1 Q I1 q1
 |false=>exact hb pins s1 σ H1 Q I1 q1
end
def SqL (K:W.Frag) (H:Hp) (a:Addr) (xs:List V):Prop:=
 Rd H a (.lst xs) \/
  ∃(o:Obj) (its:Array Value) (n:Nat),K.lookup a=some o/\o.cls=.type "list"/\o.dict=none/\o.data=.seq its n/\its.size<=sizeLine/\ZZ xs its.toList
def SqT (K:W.Frag) (H:Hp) (a:Addr) (xs:List V):Prop:=
 Rd H a (.tup xs) \/
  ∃(o:Obj) (its:Array Value) (n:Nat),K.lookup a=some o/\o.cls=.type "tuple"/\o.data=.seq its n/\its.size<=sizeLine/\ZZ xs its.toList
noncomputable def Zij:Value->Option V
 |.none=>some .non
 |.bool b=>some (.bl b)
 |.int i _=>some (.int i)
 |.str x _=>some (.str x)
 |.bytes b _=>some (.byt b)
 |.float b _=>some (.flt b)
 |.ref a=>some (.ref a)
 |.type n=>some (.ty n)
 |_=>none
theorem Jq.abs {x:V}{u:Value} (r:Jq x u):Zij u=some x:=by
 cases x with
 |non=>cases r;rfl
 |bl _=>cases r;rfl
 |int _=>obtain⟨t,rfl⟩:=r;rfl
 |str _=>obtain⟨t,rfl⟩:=r;rfl
 |byt _=>obtain⟨t,rfl⟩:=r;rfl
 |flt _=>obtain⟨t,rfl⟩:=r;rfl
 |ref _=>cases r;rfl
 |ty _=>cases r;rfl
theorem Jq.inj {x y:V}{u:Value} (r:Jq x u) (q:Jq y u):x=y:=Option.some.inj (r.abs.symm.trans q.abs)
theorem ZZ.inj:∀{xs ys:List V}{us:List Value},ZZ xs us->ZZ ys us->xs=ys
 |_,_,_,.nil,.nil=>rfl
 |_,_,_,.cons r t,.cons r' t'=>by rw[r.inj r',ZZ.inj t t']
section
variable {X:Cx}{pins:List (Addr×Obj)}{σ:St}{H:Hp}{s:Shared}{a:Addr}{xs ys:List V}
theorem SqL.of {K:W.Frag} (h:H a=some (.lst xs)):SqL K H a xs:=.inl (.inl h)
theorem Inv.list (I:Inv X pins σ H s) (h:SqL X.K H a xs):∃its:List Value,ZZ xs its/\PlainL s.heap a its.toArray/\xs.length<=sizeLine:=by
 rcases h with h|⟨o,its,n,hk,hc,hd,hs,hz,r⟩
 ·obtain⟨z,its,n,r,e⟩:=h.ok I.hok
  exact⟨its,r,⟨_,n,e,rfl,rfl,rfl⟩,z⟩
 ·refine⟨its.toList,r,⟨o,n,I.kIn a o hk,hc,hd,by simpa using hs⟩, ?_⟩
  have e:=r.length
  simp only[Array.length_toList] at e
  omega
theorem Inv.tuple (I:Inv X pins σ H s) (h:SqT X.K H a xs):∃its:List Value,ZZ xs its/\IsTup s.heap a its.toArray/\xs.length<=sizeLine:=by
 rcases h with h|⟨o,its,n,hk,hc,hs,hz,r⟩
 ·obtain⟨z,its,r,p⟩:=h.ok I.hok
  exact⟨its,r,p,z⟩
 ·refine⟨its.toList,r,⟨o,I.kIn a o hk,hc,n,by simpa using hs⟩, ?_⟩
  have e:=r.length
  simp only[Array.length_toList] at e
  omega
theorem Inv.list_inj (I:Inv X pins σ H s) (h:SqL X.K H a xs) (h':SqL X.K H a ys):xs=ys:=by
 obtain⟨its,r,⟨o,n,e,_,_,d⟩,_⟩:=I.list h
 obtain⟨its',r',⟨o',n',e',_,_,d'⟩,_⟩:=I.list h'
 rw[e] at e';cases e'
 rw[d] at d'
 injection d' with d1 _
 have:its=its':=by simpa using congrArg Array.toList d1
 subst this
 exact r.inj r'
end
noncomputable abbrev Cx.wish (X:Cx) (E:Value->Shared->Prop):Cx:={ X with xe:=E }
noncomputable abbrev Cx.nox (X:Cx):Cx:=X.wish fun _ _=>False
theorem Cx.Ok.wish {X:Cx} (ok:X.Ok) (E:Value->Shared->Prop):(X.wish E).Ok:=
 ⟨ok.mod,ok.kind,ok.glob,ok.blt,ok.above,ok.inj,ok.has,ok.cab,ok.hd,ok.frames,ok.stk,ok.exf,ok.bs,ok.bsz,ok.noex,ok.exfs,ok.funs,ok.frf⟩
theorem Cx.Ok.unwish {X:Cx}{E:Value->Shared->Prop} (ok:(X.wish E).Ok):X.Ok:=
 ⟨ok.mod,ok.kind,ok.glob,ok.blt,ok.above,ok.inj,ok.has,ok.cab,ok.hd,ok.frames,ok.stk,ok.exf,ok.bs,ok.bsz,ok.noex,ok.exfs,ok.funs,ok.frf⟩
section
variable {X:Cx}{pins:List (Addr×Obj)}{σ:St}{H:Hp}{s:Shared}{E:Value->Shared->Prop}
theorem Inv.wish (I:Inv X pins σ H s) (E:Value->Shared->Prop):Inv (X.wish E) pins σ H s:=⟨I.ok.wish E,I.os,I.bare,I.base,I.loc,I.cell,I.free,I.freeC,I.pin,I.hok,I.len⟩
theorem Inv.unwish (I:Inv (X.wish E) pins σ H s):Inv X pins σ H s:=⟨I.ok.unwish,I.os,I.bare,I.base,I.loc,I.cell,I.free,I.freeC,I.pin,I.hok,I.len⟩
theorem SP.unwish {D:ZdM}{f:Flow}{s':Shared} (h:SP (X.wish E) pins D f s'):SP X pins D f s':=by
 cases f with
 |next=>obtain⟨σ',H',I,q⟩:=h;exact⟨σ',H',I.unwish,q⟩
 |brk=>obtain⟨σ',H',I,q⟩:=h;exact⟨σ',H',I.unwish,q⟩
 |cont=>obtain⟨σ',H',I,q⟩:=h;exact⟨σ',H',I.unwish,q⟩
 |ret u=>obtain⟨v,σ',H',I,r,q⟩:=h;exact⟨v,σ',H',I.unwish,r,q⟩
theorem PSs.nox {st:List Stmt}{t:TS} (h:PSs X.nox st t):PSs X st t:=fun pins s σ H D I hw =>
 wpAny_mono (h pins s σ H D (I.wish _) hw) (fun _ _ q=>q.unwish) fun _ _ z=>False.elim z
end
section
variable {X:Cx}{st:Stmt}{Zbm:List Stmt}{t u:TS}{e:Expr}{te:TE}{pos:Pos}
noncomputable def Zf5:TS:=fun D σ H=>D.nx σ H
noncomputable def Zh0 (t u:TS):TS:=fun D σ H=>t { D with nx:=u D } σ H
theorem Z9:PSs X [] Zf5:=fun _ _ σ H _ I h=>wpAny_execs_nil ⟨σ,H,I,h⟩
theorem Zf (h1:PS X st t) (h2:PSs X Zbm u):PSs X (st::Zbm) (Zh0 t u):=by
 intro pins s σ H D I h
 refine wpAny_execs_cons (thn (h1 pins s σ H { D with nx:=u D } I h) fun f s1 q=>?_)
 cases f with
 |next =>
  obtain⟨σ',H',I',q⟩:=q
  exact h2 pins s1 σ' H' D I' q
 |ret v=>exact q
 |brk=>exact q
 |cont=>exact q
theorem Zk (h1:PS X st t):PSs X [st] t:=by
 intro pins s σ H D I h
 refine wpAny_execs_cons (thn (h1 pins s σ H D I h) fun f s1 q=>?_)
 cases f with
 |next=>exact wpAny_execs_nil q
 |ret v=>exact q
 |brk=>exact q
 |cont=>exact q
theorem Inv.quiet {pins:List (Addr×Obj)}{σ:St}{H:Hp}{s:Shared} (I:Inv X pins σ H s):interactive X.env=false:=by simp[interactive,I.ok.kind]
noncomputable def Zb1 (te:TE):TS:=fun D σ H=>te σ H fun _ H1=>D.nx σ H1
theorem V4 (he:PE X e te) (hs:swapsWith e none pos.line X.env=pure false:=by rfl):PS X (.Expr e pos) (Zb1 te):=by
 intro pins s σ H D I h
 exact wpAny_Expr_any (thn (he pins s σ H _ I h) fun v s1 ⟨x,H1,I1,r1,q1⟩=>⟨σ,H1,I1,q1⟩) I.quiet hs
noncomputable def ZgW (te:TE):TS:=fun D σ H=>te σ H D.rt
theorem Z5 (he:PE X e te):PS X (.Return (some e) pos) (ZgW te):=by
 intro pins s σ H D I h
 exact wpAny_Return_some (thn (he pins s σ H _ I h) fun v s1 ⟨x,H1,I1,r1,q1⟩=>⟨x,σ,H1,I1,r1,q1⟩)
noncomputable def Zh3 (c:TT) (t u:TS):TS:=fun D σ H=>c σ H fun b H1=>if b=true then t D σ H1 else u D σ H1
theorem Jk {c:Expr}{a b:List Stmt}{tc:TT} (hc:PT X c tc) (ha:PSs X a t) (hb:PSs X b u):PS X (.If c a b pos) (Zh3 tc t u):=by
 intro pins s σ H D I h
 refine wpAny_If (thn (hc pins s σ H _ I h) fun d s1 ⟨H1,I1,q1⟩=>?_)
 cases d with
 |true=>exact ha pins s1 σ H1 D I1 q1
 |false=>exact hb pins s1 σ H1 D I1 q1
end
noncomputable abbrev TG:=V->St->Hp->(St->Hp->Prop)->Prop
noncomputable abbrev TGs:=List V->St->Hp->(St->Hp->Prop)->Prop
def PG (X:Cx) (target:Expr) (t:TG):Prop:=
 ∀(pins:List (Addr×Obj)) (s:Shared) (σ:St) (H:Hp) (v:V) (u:Value) (Q:St->Hp->Prop),Inv X pins σ H s->Jq v u->t v σ H Q ->
  wpAny (model X.prog X.w) X.A (assign target X.env u) (fun _ s'=>∃σ' H',Inv X pins σ' H' s'/\Q σ' H') X.xe s
def PGs (X:Cx) (ts:List Expr) (t:TGs):Prop:=
 ∀(pins:List (Addr×Obj)) (s:Shared) (σ:St) (H:Hp) (vs:List V) (us:List Value) (Q:St->Hp->Prop),Inv X pins σ H s->ZZ vs us->t vs σ H Q ->
  wpAny (model X.prog X.w) X.A (assignInOrder ((assignEach ts X.env).map (·.2)) us) (fun _ s'=>∃σ' H',Inv X pins σ' H' s'/\Q σ' H') X.xe s
noncomputable abbrev ZgA:=V->V->V->Hp->(Hp->Prop)->Prop
def Zhv (X:Cx) (t:ZgA):Prop:=
 ∀(pins:List (Addr×Obj)) (s:Shared) (σ:St) (H:Hp) (o i v:V) (ov iv u:Value) (Q:Hp->Prop),Inv X pins σ H s->Jq o ov->Jq i iv->Jq v u->t o i v H Q ->
  wpAny (model X.prog X.w) X.A (setItem ov iv u) (fun _ s'=>∃H',Inv X pins σ H' s'/\Q H') X.xe s
noncomputable abbrev TIp:=V->V->Hp->VK->Prop
def PIp (X:Cx) (op:Operator) (t:TIp):Prop:=
 ∀(pins:List (Addr×Obj)) (s:Shared) (σ:St) (H:Hp) (x y:V) (v u:Value) (Q:VK),Inv X pins σ H s->Jq x v->Jq y u->t x y H Q ->
  wpAny (model X.prog X.w) X.A (inplaceOp op v u) (EP X pins σ Q) X.xe s
section
variable {X:Cx}{pos:Pos}
noncomputable def UW (i:Nat):TG:=fun v σ H Q=>Q (σ.set i (some v)) H
theorem JE {i:Nat}{x:Str} (hN:X.N.Nodup) (hi:X.N[i]?=some x) (hx:Loc X.env.scope x) (hf:X.fn x=true\/X.env.scope.names.lookup x=some .local:=by first|exact .inl rfl|exact .inr rfl|assumption):PG X (.Name x pos) (UW i):=by
 intro pins s σ H v u Q I r h
 exact wpAny_assign_Name (VQ I hN hi hx r (fun s' I'=>⟨_,H,I',h⟩) hf)
noncomputable def ZhK:TGs:=fun vs σ H Q=>vs=[]/\Q σ H
noncomputable def ZeX (t:TG) (u:TGs):TGs:=fun vs σ H Q=>∃v r,vs=v::r/\t v σ H fun σ' H'=>u r σ' H' Q
theorem Ze6:PGs X [] ZhK:=by
 intro pins s σ H vs us Q I r h
 obtain⟨e,h⟩:=h
 subst e
 cases r
 exact assignInOrder_nil ⟨σ,H,I,h⟩
theorem Zaw {e:Expr}{es:List Expr}{t:TG}{u:TGs} (h1:PG X e t) (h2:PGs X es u)
  (hs:(assignEach (e::es) X.env).map (·.2)=assign e X.env::(assignEach es X.env).map (·.2):=by rfl):PGs X (e::es) (ZeX t u):=by
 intro pins s σ H vs us Q I r h
 obtain⟨v,vr,e1,h⟩:=h
 subst e1
 cases r with
 |cons r rr =>
  rw[hs]
  refine assignInOrder_cons (thn (h1 pins s σ H _ _ _ I r h) fun _ s1 ⟨σ1,H1,I1,q1⟩=>?_)
  exact h2 pins s1 σ1 H1 _ _ Q I1 rr q1
noncomputable def ZhI (K:W.Frag) (n:Nat) (t:TGs):TG:=fun v σ H Q=>∃a xs,v=.ref a/\SqT K H a xs/\xs.length=n/\t xs σ H Q
theorem ZfG {es:List Expr}{k:Nat}{t:TGs}{n:Nat} (hc:X.calm=true) (h:PGs X es t)
  (hn:(assignEach es X.env).length=n:=by rfl) (hst:(assignEach es X.env).findIdx? (·.1)=none:=by rfl):PG X (.Tuple es k pos) (ZhI X.K n t):=by
 intro pins s σ H v u Q I r hw
 obtain⟨a,xs,e1,hq,hl,hw⟩:=hw
 subst e1
 cases r
 obtain⟨its,rv,ht,hz⟩:=I.tuple hq
 refine assign_Tuple_tuple (I.ok.hd hc) ht (by simp[hn,<- hl,rv.length]) hst fun h' hx=>?_
 have I1:Inv X pins σ H { s with heap:=h' }:=I.kept (t':=s.toks) fun b o e=>hx b o (Zmk (Heap.lt_size e)) e
 exact h pins _ σ H xs _ Q I1 (by simpa using rv) hw
noncomputable def ZhJ (to ti:TE) (t:ZgA):TG:=fun v σ H Q=>to σ H fun o H1=>ti σ H1 fun i H2=>t o i v H2 fun H3=>Q σ H3
theorem U6 {o i:Expr}{to ti:TE}{t:ZgA} (ho:PE X o to) (hi:PE X i ti) (hs:Zhv X t)
  (ha:∀v,assign (.Subscript o i pos) X.env v=(do
   let ov <- holding [v] (eval o X.env)
   let iv <- holding [v,ov] (eval i X.env)
   standAt pos
   holding [v,ov,iv] (setItem ov iv v)
   release [v,ov,iv] []):=by exact fun _=>rfl):PG X (.Subscript o i pos) (ZhJ to ti t):=by
 intro pins s σ H v u Q I r h
 rw[ha]
 refine wpAny_bind (wpAny_holding (thn (ho pins s σ H _ I h) fun ov s1 ⟨x,H1,I1,r1,q1⟩=>?_))
 refine wpAny_bind (wpAny_holding (thn (hi pins s1 σ H1 _ I1 q1) fun iv s2 ⟨y,H2,I2,r2,q2⟩=>?_))
 refine wpAny_bind (wpAny_standAt (wpAny_bind (wpAny_holding (thn (hs pins s2 σ H2 x y v ov iv u _ I2 r1 r2 r q2) fun _ s3 ⟨H3,I3,q3⟩=>?_))))
 exact wpAny_release ⟨σ,H3,I3,q3⟩
noncomputable def Zf7 (te:TE) (g:TG):TS:=fun D σ H=>te σ H fun x H1=>g x σ H1 D.nx
theorem U5 {tg e:Expr}{te:TE}{g:TG} (he:PE X e te) (hg:PG X tg g) (hs:swapsWithSole [tg] e pos.line X.env=pure false:=by rfl) (hw:swappedStores [tg] e X.env=pure none:=by rfl)
  (h1:(assignEach [tg] X.env).map (·.2)=[assign tg X.env]:=by rfl):PS X (.Assign [tg] e pos) (Zf7 te g):=by
 intro pins s σ H D I h
 refine wpAny_Assign_stores (thn (he pins s σ H _ I h) fun v s1 ⟨x,H1,I1,r1,q1⟩=>?_) hs hw
 rw[h1]
 exact thn (hg pins s1 σ H1 x v _ I1 r1 q1) fun _ s2 q=>q
theorem ZG {i:Nat}{x:Str}{e:Expr}{te:TE}{pos':Pos} (hN:X.N.Nodup) (hi:X.N[i]?=some x) (hx:Loc X.env.scope x) (he:PE X e te) (hs:swapsWith e (some (.Name x pos')) pos.line X.env=pure false:=by rfl) (hf:X.fn x=true\/X.env.scope.names.lookup x=some .local:=by first|exact .inl rfl|exact .inr rfl|assumption) :
  PS X (.Assign [.Name x pos'] e pos) (Zf7 te (UW i)):=by
 intro pins s σ H D I h
 refine wpAny_Assign_Name (thn (he pins s σ H _ I h) fun v s1 ⟨y,H1,I1,r1,q1⟩=>?_) hs
 exact VQ I1 hN hi hx r1 (fun s2 I2=>⟨_,H1,I2,q1⟩) hf
noncomputable def Zh6 (i:Nat) (te:TE) (ti:TIp):TS:=fun D σ H=>∃x,σ[i]?=some (some x)/\te σ H fun y H1=>ti x y H1 fun z H2=>D.nx (σ.set i (some z)) H2
theorem ZbI {i:Nat}{x:Str}{e:Expr}{te:TE}{op:Operator}{ti:TIp}{pos':Pos} (hN:X.N.Nodup) (hi:X.N[i]?=some x) (hx:Loc X.env.scope x) (he:PE X e te) (ho:PIp X op ti) (hf:X.fn x=true\/X.env.scope.names.lookup x=some .local:=by first|exact .inl rfl|exact .inr rfl|assumption) :
  PS X (.AugAssign (.Name x pos') op e pos) (Zh6 i te ti):=by
 intro pins s σ H D I h
 obtain⟨v,e1,h⟩:=h
 obtain⟨m,hn,hl⟩:=I.loc
 have vis:Vis X.env.scope x:=by rcases hx with k|k;exact .inl k;exact .inr (.inl k)
 obtain⟨u,r,l⟩:=hl i x v hi e1 vis
 refine wpAny_AugAssign_Name ?_
 have go:wpAny (model X.prog X.w) X.A (eval e X.env) (fun w s₂=>wpAny (model X.prog X.w) X.A (inplaceOp op u w) (fun r s₃=>wpAny (model X.prog X.w) X.A (storeName X.env x r) (fun _=>SP X pins D .next) X.xe s₃) X.xe s₂) X.xe s:=by
  refine thn (he pins s σ H _ I h) fun w s1 ⟨y,H1,I1,r1,q1⟩=>?_
  refine thn (ho pins s1 σ H1 v y u w _ I1 r r1 q1) fun z s2 ⟨zv,H2,I2,r2,q2⟩=>?_
  exact VQ I2 hN hi hx r2 (fun s3 I3=>⟨_,H2,I3,q2⟩) hf
 rcases l with ⟨hk,hm⟩|⟨hk,c,hc,hcell⟩
 ·exact wpAny_loadName_local I.ok.kind hk hn hm go
 ·rcases hk with hk|hk
  ·exact wpAny_loadName_cell I.ok.kind hk hc hcell go
  ·rcases hx with k|k
   ·have:X.env.scope.names.lookup x=some .free:=hk
    rw[k] at this;cases this
   ·have:X.env.scope.names.lookup x=some .free:=hk
    rw[k] at this;cases this
noncomputable def Zf6 (to ti te:TE) (tget:V->V->Hp->VK->Prop) (tip:TIp) (tset:ZgA):TS:=fun D σ H=>to σ H fun o H1=>ti σ H1 fun i H2=>tget o i H2 fun x H3=>te σ H3 fun y H4=>tip x y H4 fun z H5=>tset o i z H5 fun H6=>D.nx σ H6
def Zhw (X:Cx) (t:V->V->Hp->VK->Prop):Prop:=
 ∀(pins:List (Addr×Obj)) (s:Shared) (σ:St) (H:Hp) (o i:V) (ov iv:Value) (Q:VK),Inv X pins σ H s->Jq o ov->Jq i iv->t o i H Q ->
  wpAny (model X.prog X.w) X.A (getItem ov iv) (EP X pins σ Q) X.xe s
theorem ZbH {o i e:Expr}{to ti te:TE}{tget:V->V->Hp->VK->Prop}{tip:TIp}{tset:ZgA}{op:Operator}{tpos:Pos} (ho:PE X o to) (hi:PE X i ti) (hg:Zhw X tget) (he:PE X e te) (hp:PIp X op tip) (hs:Zhv X tset)
  (ha:∀ov iv new,augStore i ov iv new=(do holding [new,ov,iv] (setItem ov iv new);release [new,ov,iv] [];pure .next):=by intros;rfl):PS X (.AugAssign (.Subscript o i tpos) op e pos) (Zf6 to ti te tget tip tset):=by
 intro pins s σ H D I h
 refine wpAny_AugAssign_SubscriptAny (thn (ho pins s σ H _ I h) fun ov s1 ⟨x1,H1,I1,r1,q1⟩=>?_) ha
 refine thn (hi pins s1 σ H1 _ I1 q1) fun iv s2 ⟨x2,H2,I2,r2,q2⟩=>?_
 refine thn (hg pins s2 σ H2 x1 x2 ov iv _ I2 r1 r2 q2) fun old s3 ⟨x3,H3,I3,r3,q3⟩=>?_
 refine thn (he pins s3 σ H3 _ I3 q3) fun v s4 ⟨x4,H4,I4,r4,q4⟩=>?_
 refine thn (hp pins s4 σ H4 x3 x4 old v _ I4 r3 r4 q4) fun new s5 ⟨x5,H5,I5,r5,q5⟩=>?_
 exact thn (hs pins s5 σ H5 x1 x2 x5 ov iv new _ I5 r1 r2 r5 q5) fun _ s6 ⟨H6,I6,q6⟩=>⟨σ,H6,I6,q6⟩
noncomputable def ipI (f:Int->Int->Int):TIp:=fun x y H Q=>∃i j,x=.int i/\y=.int j/\Q (.int (f i j)) H
theorem Qy:PIp X .Add (ipI fun i j=>i+j):=by
 intro pins s σ H x y v u Q I r1 r2 h
 obtain⟨i,j,e1,e2,q⟩:=h
 subst e1;subst e2
 obtain⟨t,rfl⟩:=r1
 obtain⟨t',rfl⟩:=r2
 exact iadd_int ⟨.int _,H,I.tok _,⟨_,rfl⟩,q⟩
noncomputable def ZdP (c:TT) (tb:TS):TS:=fun D σ H=>∃W:Nat->St->Hp->Prop,(∃m,W m σ H)/\∀m σ H,W m σ H ->
 c σ H fun b H1=>if b=true then ∃N:St->Hp->Prop,(∀σ' H',N σ' H'->∃m',m'<m/\W m' σ' H')/\tb { D with nx:=N,ct:=N,bk:=D.nx } σ H1 else D.nx σ H1
theorem Vm {c:Expr}{body:List Stmt}{tc:TT}{tb:TS} (hp:PassesOwn (model X.prog X.w) X.A X.env X.xe) (hc:PT X c tc) (hb:PSs X body tb):PS X (.While c body [] pos) (ZdP tc tb):=by
 intro pins s σ H D I h
 obtain⟨W,⟨m0,w0⟩,turn⟩:=h
 refine wpAny_While (codeAny_whileLoop (fun n s'=>∃σ' H',Inv X pins σ' H' s'/\W n σ' H') ?_ m0 ⟨σ,H,I,w0⟩)
 rintro n s1 ⟨σ1,H1,I1,w1⟩
 refine wpAny_passesOwn hp (thn (hc pins s1 σ1 H1 _ I1 (turn n σ1 H1 w1)) fun b s2 ⟨H2,I2,q2⟩=>?_)
 cases b with
 |true =>
  obtain⟨N,hN,q2⟩:=q2
  rw[if_pos rfl]
  refine wpAny_passesOwn hp (thn (hb pins s2 σ1 H2 _ I2 q2) fun f s3 q3=>?_)
  cases f with
  |next =>
   obtain⟨σ3,H3,I3,n3⟩:=q3
   obtain⟨m',hm,w3⟩:=hN σ3 H3 n3
   exact⟨m',hm,σ3,H3,I3,w3⟩
  |cont =>
   obtain⟨σ3,H3,I3,n3⟩:=q3
   obtain⟨m',hm,w3⟩:=hN σ3 H3 n3
   exact⟨m',hm,σ3,H3,I3,w3⟩
  |brk=>exact q3
  |ret v=>exact q3
 |false =>
  rw[if_neg Bool.false_ne_true]
  exact wpAny_execs_nil ⟨σ1,H2,I2,q2⟩
end
structure It where
 go:Nat->Hp->Prop
 yld:Nat->Hp->V->Hp->Prop
 stop:Nat->Hp->Prop
def Zbp (X:Cx) (pins:List (Addr×Obj)) (H:Hp) (b:Addr):Prop:=
 H b=none/\b≠X.env.locals/\b ∉ X.fs/\(b∈X.ex\/X.s₀.heap.objs.size<=b)/\(∀x c,X.env.cells.lookup x=some c->c≠b)/\∀p∈X.pn++pins,p.1≠b
theorem Inv.fpOk {X:Cx}{pins:List (Addr×Obj)}{σ:St}{H H':Hp}{s:Shared}{b:Addr} (I:Inv X pins σ H s) (hb:s.heap.objs.size<=b) (hn:H' b=none):Zbp X pins H' b:=by
 refine⟨hn,ZmQ (ZlX I.lt hb),I.nofs hb,.inr (Zml I.sz hb),fun x c e z=>?_,fun p hp z=>?_⟩
 ·obtain⟨v,q⟩:=I.cell x c e
  exact absurd (ZlX q.lt (by rw[z];exact hb)) (Zmu _)
 ·exact absurd (ZlX (Heap.lt_size (I.pin p hp).1) (by rw[z];exact hb)) (Zmu _)
structure Zfz (P:Program) (w:World) (K:PySem.W.Frag) (tg:Expr) (J:It) (fp:List Addr) (it:Addr) (tn:Nat->Heap->Prop):Prop where
 mem:it∈fp
 obj:∀i h,tn i h->∀b∈fp,∃o,h.get? b=some o/\∀v,o.data≠.cell v
 keep:∀i h h',tn i h->(∀b∈fp,∀o,h.get? b=some o->h'.get? b=some o)->tn i h'
 item:∀(X:Cx),X.prog=P->X.w=w->X.K=K->X.calm=true->∀(i:Nat) (pins:List (Addr×Obj)) (s:Shared) (σ:St) (H:Hp) (E:Value->Shared->Prop),Inv X pins σ H s->(∀b∈fp,Zbp X pins H b)->tn i s.heap->J.go i H ->
  wpAny (model P w) X.A (pyNext (.ref it)) (fun r s1=>∃u,r=some u /\
   wpAny (model P w) X.A (letOwnedTupleGo tg (.ref it) u) (fun _ s2=>∃x H',Inv X pins σ H' s2/\Jq x u/\J.yld i H x H'/\tn (i+1) s2.heap/\∀b∈fp,H' b=none) E s1) E s
 done:∀(X:Cx),X.prog=P->X.w=w->X.K=K->X.calm=true->∀(i:Nat) (pins:List (Addr×Obj)) (s:Shared) (σ:St) (H:Hp) (E:Value->Shared->Prop),Inv X pins σ H s->(∀b∈fp,Zbp X pins H b)->tn i s.heap->J.stop i H ->
  wpAny (model P w) X.A (pyNext (.ref it)) (fun r s1=>r=none/\Inv X pins σ H s1) E s
 self:∀(A:Around) (i:Nat) (s:Shared) (Q:Value->Shared->Prop) (E:Value->Shared->Prop),tn i s.heap->Q (.ref it) s->wpAny (model P w) A (pyIter (.ref it)) Q E s
noncomputable abbrev TI:=St->Hp->(It->Hp->Prop)->Prop
def PIE (X:Cx) (pins:List (Addr×Obj)) (σ:St) (tg:Expr) (R:It->Hp->Prop) (itv:Value) (s2:Shared):Prop:=
 ∃(it:Addr) (fp:List Addr) (tn:Nat->Heap->Prop) (J:It) (H':Hp),itv=.ref it/\Inv X pins σ H' s2/\Zfz X.prog X.w X.K tg J fp it tn/\tn 0 s2.heap/\(∀b∈fp,Zbp X pins H' b)/\R J H'
def PI (X:Cx) (tg iter:Expr) (wi:TI):Prop:=
 ∀(pins:List (Addr×Obj)) (s:Shared) (σ:St) (H:Hp) (R:It->Hp->Prop),Inv X pins σ H s->wi σ H R ->
  wpAny (model X.prog X.w) X.A (eval iter X.env) (fun v s1=>wpAny (model X.prog X.w) X.A (pyIter v) (PIE X pins σ tg R) X.xe s1) X.xe s
theorem Zgw {M:Model}{A:Around}{E:Value->Shared->Prop}{s:Shared}{tg:Expr}{it:Addr}{u:Value}{o:Obj}{n:String}{vs:Array Value}{Q:Unit->Shared->Prop} (ho:s.heap.get? it=some o) (hc:o.cls=.type n) (hd:o.data=.fields vs)
  (hn:["enumerate", "zip", "dict_itemiterator", "dict_reverseitemiterator", "odict_iterator", "itertools.zip_longest", "itertools.pairwise"].contains n=false) (hQ:Q () s):wpAny M A (letOwnedTupleGo tg (.ref it) u) Q E s:=by
 unfold letOwnedTupleGo
 cases tg<;>first
  |exact wpAny_pure hQ
  |(cases u<;>first
    |exact wpAny_pure hQ
    |(refine wpAny_bind (wpAny_load ho ?_)
      rw[hc,hd]
      show wpAny M A (if (["enumerate", "zip", "dict_itemiterator", "dict_reverseitemiterator", "odict_iterator", "itertools.zip_longest", "itertools.pairwise"].contains n&&vs[0]?==some (rawInt _))=true then _ else _) Q E s
      rw[if_neg (by intro h;rw[hn,Bool.false_and] at h;cases h)]
      exact wpAny_pure hQ))
noncomputable def Itl (K:W.Frag) (a:Addr):It:=
 ⟨fun i H=>∃xs x,SqL K H a xs/\xs[i]?=some x,fun i H x H'=>H'=H/\∀xs,SqL K H a xs->xs[i]?=some x,fun i H=>∃xs,SqL K H a xs/\xs.length<=i⟩
noncomputable def Itr (lo:Int) (n:Nat):It:=⟨fun i _=>i<n,fun i H x H'=>H'=H/\x=.int (lo+i),fun i _=>n<=i⟩
theorem Zbq {P:Program}{w:World}{K:W.Frag}{tg:Expr} (a it:Addr):Zfz P w K tg (Itl K a) [it] it (fun i h=>h.IsListIter it a i) where
 mem:=by simp
 obj:=fun i h st b hb=>by
  have e:b=it:=by simpa using hb
  subst e
  obtain⟨o,e,c,d⟩:=st
  exact⟨o,e,fun v z=>by rw[d] at z;cases z⟩
 keep:=fun i h h' st k=>st.at fun o e=>k it (by simp) o e
 item:=by
  intro X hP hw hK hc i pins s σ H E I hf st hg
  subst hP hw hK
  obtain⟨xs,x,hq,hx⟩:=hg
  obtain⟨its,rv,p,hz⟩:=I.list hq
  obtain⟨u,hu,ru⟩:=rv.get hx
  obtain⟨f0,f1,f2,f3,f4,f5⟩:=hf it (by simp)
  refine wpAny_pyNext_list_item st p.isList (x:=u) (by simpa using hu) fun h' st' sb=>?_
  have I1:Inv X pins σ H { s with heap:=h' }:=I.turned (t':=s.toks) (fun b o hb e=>(sb.2 b hb).trans e) f0 f1 f3 f4 f5
  obtain⟨o,e,c,d⟩:=id st'
  exact⟨u,rfl,Zgw (s:={ s with heap:=h' }) e c d (by decide) ⟨x,H,I1,ru,⟨rfl,fun ys hy=>by rw[I.list_inj hy hq];exact hx⟩,st',fun b hb=>(hf b hb).1⟩⟩
 done:=by
  intro X hP hw hK hc i pins s σ H E I hf st hg
  subst hP hw hK
  obtain⟨xs,hq,hx⟩:=hg
  obtain⟨its,rv,p,hz⟩:=I.list hq
  obtain⟨f0,f1,f2,f3,f4,f5⟩:=hf it (by simp)
  have hl:=rv.length
  exact wpAny_pyNext_list_end (I.ok.hd hc) st p.isList (by simp;omega) fun h' eb=>⟨rfl,I.turned (t':=s.toks) (fun b o hb e=>eb b o hb e) f0 f1 f3 f4 f5⟩
 self:=fun _ _ _ _ _ st h=>wpAny_pyIter_listiter st h
theorem ZaR {P:Program}{w:World}{K:W.Frag}{tg:Expr} (it:Addr) (lo:Int) (n:Nat):Zfz P w K tg (Itr lo n) [it] it (fun i h=>IsRangeIter h it (lo+(i:Nat)*1) ((n:Int)-(i:Nat)) 1) where
 mem:=by simp
 obj:=fun i h st b hb=>by
  have e:b=it:=by simpa using hb
  subst e
  exact⟨_,st,fun v z=>by
   have z':Data.fields _=Data.cell v:=z
   cases z'⟩
 keep:=fun i h h' st k=>k it (by simp) _ st
 item:=by
  intro X hP hw hK hc i pins s σ H E I hf st hg
  subst hP hw hK
  obtain⟨f0,f1,f2,f3,f4,f5⟩:=hf it (by simp)
  have W:=Walks.range (prog:=X.prog) (w:=X.w) (I.ok.hd hc) it lo 1 n
  refine W.item i s _ _ hg st fun v h' tk hv st' kk=>?_
  obtain⟨t,rfl⟩:=hv
  have I1:Inv X pins σ H { s with heap:=h',toks:=tk }:=I.turned (fun b o hb e=>kk b o (by simpa using hb) e) f0 f1 f3 f4 f5
  refine⟨_,rfl,Zgw (s:={ s with heap:=h',toks:=tk }) (n := "range_iterator") st' rfl rfl (by decide) ⟨.int (lo+i),H,I1,⟨t, ?_⟩,⟨rfl,rfl⟩,st',fun b hb=>(hf b hb).1⟩⟩
  rw[ZmK]
 done:=by
  intro X hP hw hK hc i pins s σ H E I hf st hg
  subst hP hw hK
  obtain⟨f0,f1,f2,f3,f4,f5⟩:=hf it (by simp)
  exact wpAny_pyNext_range_end (I.ok.hd hc) st (by have:n<=i:=hg;omega) fun h' eb=>⟨rfl,I.turned (t':=s.toks) (fun b o hb e=>eb b o hb e) f0 f1 f3 f4 f5⟩
 self:=fun _ _ _ _ _ st h=>wpAny_pyIter_rangeiter st h
section
variable {X:Cx}{tg:Expr}
noncomputable def Zd7 (K:W.Frag) (tl:TE):TI:=fun σ H R=>tl σ H fun x H1=>∃a,x=.ref a/\(∃xs,SqL K H1 a xs)/\R (Itl K a) H1
theorem Ze4 {l:Expr}{tl:TE} (hl:PE X l tl):PI X tg l (Zd7 X.K tl):=by
 intro pins s σ H R I h
 refine thn (hl pins s σ H _ I h) fun v s1 ⟨x,H1,I1,r1,q1⟩=>?_
 obtain⟨a,e,⟨xs,hq⟩,q⟩:=q1
 subst e
 cases r1
 obtain⟨its,rv,p,hz⟩:=I1.list hq
 refine wpAny_pyIter_list p.isList ?_
 refine⟨s1.heap.objs.size,[s1.heap.objs.size],_,_,H1,rfl,I1.kept (t':=s1.toks) fun b o e=>Heap.get?_push_of_some _ e,Zbq a _,⟨_,Heap.get?_push_size _ rfl,rfl,rfl⟩,fun b hb=>?_,q⟩
 have e:b=s1.heap.objs.size:=by simpa using hb
 subst e
 exact I1.fpOk (ZlY _) (I1.hok.fresh (ZlY _))
theorem Zar {pins:List (Addr×Obj)}{σ:St}{H:Hp}{s:Shared}{R:It->Hp->Prop}{E:Value->Shared->Prop}{lo hi:Int}{t u v:Tok}{tk:Nat} (I:Inv X pins σ H s) (h1:-(2^62)<=lo) (h2:lo<2^62) (h3:-(2^62)<=hi) (h4:hi<2^62)
  (q:R (Itr lo (hi-lo).toNat) H):wpAny (model X.prog X.w) X.A (pyIter (.ref s.heap.objs.size)) (PIE X pins σ tg R) E { s with heap:=s.heap.push { cls:=.type "range",data:=.fields #[.int lo t,.int hi u,.int 1 v] },toks:=tk }:=by
 refine wpAny_pyIter_range (IsRange.new ..) (small_one h1 h2 h3 h4) ?_
 have I1:Inv X pins σ H { s with heap:=s.heap.push { cls:=.type "range",data:=.fields #[.int lo t,.int hi u,.int 1 v] },toks:=tk }:=I.kept fun b o e=>Heap.get?_push_of_some _ e
 refine⟨(s.heap.push { cls:=.type "range",data:=.fields #[.int lo t,.int hi u,.int 1 v] }).objs.size,[(s.heap.push { cls:=.type "range",data:=.fields #[.int lo t,.int hi u,.int 1 v] }).objs.size],_,_,H,rfl,
  I1.kept (t':=tk) fun b o e=>Heap.get?_push_of_some _ e,ZaR _ lo (hi-lo).toNat, ?_,fun b hb=>?_,q⟩
 ·have e1:lo+((0:Nat):Int)*1=lo:=by simp
  have e2:(((hi-lo).toNat:Nat):Int)-((0:Nat):Int)=Builtin.Range.rangeSize lo hi 1:=by rw[rangeSize_one];split<;>omega
  show IsRangeIter _ _ (lo+((0:Nat):Int)*1) ((((hi-lo).toNat:Nat):Int)-((0:Nat):Int)) 1
  rw[e1,e2]
  exact Heap.get?_push_size _ rfl
 ·have e:b=(s.heap.push { cls:=.type "range",data:=.fields #[.int lo t,.int hi u,.int 1 v] }).objs.size:=by simpa using hb
  subst e
  exact I1.fpOk (ZlY _) (I1.hok.fresh (ZlY _))
noncomputable def Zgu (ta:TA):TI:=fun σ H R=>ta σ H fun vs H1=>∃j:Int,vs=[.int j]/\-(2^62)<=j/\j<2^62/\R (Itr 0 j.toNat) H1
noncomputable def Zgt (ta:TA):TI:=fun σ H R=>ta σ H fun vs H1=>∃i j:Int,vs=[.int i,.int j]/\(-(2^62)<=i/\i<2^62/\-(2^62)<=j/\j<2^62)/\R (Itr i (j-i).toNat) H1
theorem Jg {a:Expr}{ta:TA}{p pos:Pos} (hg:Gl X "range") (hm:X.mg "range"=none) (ha:PA X [a] ta) (hs:starEach [a] X.env=[(false,eval a X.env)]:=by rfl):PI X tg (.Call (.Name "range" p) [a] [] pos) (Zgu ta):=by
 intro pins s σ H R I h
 refine Call_ (UA I hg hm boot_range (PyProof.Rows.callWith_type1 (thn (ha pos pins s σ H _ I h) fun us s1 ⟨vs,H1,I1,r1,q1⟩=>?_) hs rfl))
 obtain⟨j,e,q1,q2,q⟩:=q1
 subst e
 cases r1 with
 |cons r rr =>
  cases rr
  obtain⟨t,rfl⟩:=r
  exact call_range_1 (Zar I1 (by omega) (by omega) q1 q2 (by simpa using q))
theorem ZbM {a b:Expr}{ta:TA}{p pos:Pos} (hg:Gl X "range") (hm:X.mg "range"=none) (ha:PA X [a,b] ta) (hs:starEach [a,b] X.env=[(false,eval a X.env),(false,eval b X.env)]:=by rfl) (hs2:starEach [b] X.env=[(false,eval b X.env)]:=by rfl) :
  PI X tg (.Call (.Name "range" p) [a,b] [] pos) (Zgt ta):=by
 intro pins s σ H R I h
 refine Call_ (UA I hg hm boot_range (PyProof.Rows.callWith_type1 (thn (ha pos pins s σ H _ I h) fun us s1 ⟨vs,H1,I1,r1,q1⟩=>?_) (by rw[hs,hs2]) (by rw[hs2];rfl)))
 obtain⟨i,j,e,⟨q1,q2,q3,q4⟩,q⟩:=q1
 subst e
 cases r1 with
 |cons r rr =>
  cases rr with
  |cons r' rr =>
   cases rr
   obtain⟨t,rfl⟩:=r
   obtain⟨t',rfl⟩:=r'
   exact call_range_2 (Zar I1 q1 q2 q3 q4 q)
noncomputable def Zh4 (wi:TI) (g:TG) (tb:TS):TS:=fun D σ H=>wi σ H fun J H1=>∃W:Nat->Nat->St->Hp->Prop,(∃m,W 0 m σ H1)/\∀i m σ H,W i m σ H ->
 (J.stop i H/\D.nx σ H)\/(J.go i H/\∃N:St->Hp->Prop,(∀σ' H',N σ' H'->∃m',m'<m/\W (i+1) m' σ' H')/\∀x H',J.yld i H x H'->g x σ H' fun σ2 H2=>tb { D with nx:=N,ct:=N,bk:=D.nx } σ2 H2)
noncomputable def Zau (fp:List Addr) (h:Heap):List (Addr×Obj):=fp.filterMap fun b=>(h.get? b).map fun o=>(b,o)
theorem Jf {fp:List Addr}{h:Heap}{b:Addr}{o:Obj} (hb:b∈fp) (e:h.get? b=some o):(b,o)∈Zau fp h:=Znk.mpr ⟨b,hb,by rw[e];rfl⟩
theorem Zcd {fp:List Addr}{h:Heap}{p:Addr×Obj} (hp:p∈Zau fp h):p.1∈fp/\h.get? p.1=some p.2:=by
 obtain⟨b,hb,e⟩:=Znk.mp hp
 cases q:h.get? b with
 |none=>rw[q] at e;cases e
 |some o =>
  rw[q] at e
  have e':(b,o)=p:=Option.some.inj e
  subst e'
  exact⟨hb,q⟩
theorem Inv.pinned {pins:List (Addr×Obj)}{σ:St}{H:Hp}{s:Shared}{fp:List Addr} (I:Inv X pins σ H s) (hf:∀b∈fp,Zbp X pins H b) (ho:∀b∈fp,∃o,s.heap.get? b=some o/\∀v,o.data≠.cell v):Inv X (pins++Zau fp s.heap) σ H s:=
 I.pins_of fun p hp=>(Zma.mp hp).elim (fun z=>I.pin p (ZlT _ z)) fun z=>by
  obtain⟨hb,e⟩:=Zcd z
  obtain⟨f0,f1,f2,_⟩:=hf p.1 hb
  obtain⟨o,e',d⟩:=ho p.1 hb
  rw[e] at e';cases e'
  exact⟨e,f0,f1,f2,d⟩
theorem Inv.unpinned {pins pl:List (Addr×Obj)}{σ:St}{H:Hp}{s:Shared} (I:Inv X (pins++pl) σ H s):Inv X pins σ H s:=I.pins_of fun p hp=>I.pin p (ZlT _ (Zmb _ hp))
theorem Ui {iter:Expr}{body:List Stmt}{wi:TI}{g:TG}{tb:TS}{pos:Pos} (hp:PassesOwn (model X.prog X.w) X.A X.env X.xe) (hc:X.calm=true) (hi:PI X tg iter wi) (hg:PG X tg g) (hb:PSs X body tb)
  (hs:∀x,foldedSetIterable iter X.env x=pure x:=by exact fun _=>rfl):PS X (.For tg iter body [] pos) (Zh4 wi g tb):=by
 intro pins s σ H D I h
 refine wpAny_For (thn (hi pins s σ H _ I h) fun v s1 h1=>thn h1 fun itv s2 h2=>?_) hs
 obtain⟨it,fp,tn,J,H2,e,I2,T,st2,f2,W,⟨m0,w0⟩,turn⟩:=h2
 subst e
 have stat:∀{H':Hp},(∀b∈fp,H' b=none)->∀b∈fp,Zbp X pins H' b:=fun hn b hb=>⟨hn b hb,(f2 b hb).2⟩
 refine codeAny_forLoop_any (fun n s'=>∃i σ' H',Inv X pins σ' H' s'/\tn i s'.heap/\(∀b∈fp,H' b=none)/\W i n σ' H') ?_ m0 ⟨0,σ,H2,I2,st2,fun b hb=>(f2 b hb).1,w0⟩
 rintro n s3 ⟨i,σ3,H3,I3,st3,fr3,w3⟩
 rcases turn i n σ3 H3 w3 with ⟨stop,qn⟩|⟨go,N,hN,step⟩
 ·refine wpAny_passesOwn hp (thn (T.done X rfl rfl rfl hc i pins s3 σ3 H3 X.xe I3 (stat fr3) st3 stop) fun r s4 ⟨hr,I4⟩=>?_)
  subst hr
  exact wpAny_execs_nil ⟨σ3,H3,I4,qn⟩
 ·refine wpAny_passesOwn hp (thn (T.item X rfl rfl rfl hc i pins s3 σ3 H3 X.xe I3 (stat fr3) st3 go) fun r s4 ⟨u,hr,h4⟩=>?_)
  subst hr
  refine wpAny_passesOwn hp (thn h4 fun _ s5 ⟨x,H5,I5,r5,y5,st5,fr5⟩=>?_)
  have I5':=I5.pinned (stat fr5) (T.obj _ _ st5)
  refine wpAny_passesOwn hp (thn (hg _ s5 σ3 H5 x u _ I5' r5 (step x H5 y5)) fun _ s6 ⟨σ6,H6,I6,q6⟩=>?_)
  refine wpAny_passesOwn hp (thn (hb _ s6 σ6 H6 _ I6 q6) fun f s7 q7=>?_)
  have again:∀{σ7:St}{H7:Hp},Inv X (pins++Zau fp s5.heap) σ7 H7 s7->N σ7 H7->∃m,m<n/\∃i σ' H',Inv X pins σ' H' s7/\tn i s7.heap/\(∀b∈fp,H' b=none)/\W i m σ' H':=fun {σ7 H7} I7 n7=>by
   obtain⟨m',hm,w7⟩:=hN σ7 H7 n7
   refine⟨m',hm,i+1,σ7,H7,I7.unpinned,T.keep _ _ _ st5 fun b hb o e=>(I7.pin (b,o) (ZlT _ (ZlT _ (Jf hb e)))).1,fun b hb=>?_,w7⟩
   obtain⟨o,e,d⟩:=T.obj _ _ st5 b hb
   exact(I7.pin (b,o) (ZlT _ (ZlT _ (Jf hb e)))).2.1
  cases f with
  |next=>obtain⟨σ7,H7,I7,n7⟩:=q7;exact again I7 n7
  |cont=>obtain⟨σ7,H7,I7,n7⟩:=q7;exact again I7 n7
  |brk=>obtain⟨σ7,H7,I7,q7⟩:=q7;exact⟨σ7,H7,I7.unpinned,q7⟩
  |ret v=>obtain⟨x7,σ7,H7,I7,r7,q7⟩:=q7;exact⟨x7,σ7,H7,I7.unpinned,r7,q7⟩
end
noncomputable abbrev R2:=V->V->Hp->VK->Prop
def OpR (X:Cx) (f:Value->Value->Sem Value) (r:R2):Prop:=
 ∀(pins:List (Addr×Obj)) (s:Shared) (σ:St) (H:Hp) (x y:V) (v u:Value) (Q:VK),Inv X pins σ H s->Jq x v->Jq y u->r x y H Q ->
  wpAny (model X.prog X.w) X.A (f v u) (EP X pins σ Q) X.xe s
def UnR (X:Cx) (f:Value->Sem Value) (r:V->Hp->VK->Prop):Prop:=
 ∀(pins:List (Addr×Obj)) (s:Shared) (σ:St) (H:Hp) (x:V) (v:Value) (Q:VK),Inv X pins σ H s->Jq x v->r x H Q ->
  wpAny (model X.prog X.w) X.A (f v) (EP X pins σ Q) X.xe s
def VP (X:Cx) (f:Value) (r:List V->Hp->VK->Prop):Prop:=
 ∀(pins:List (Addr×Obj)) (s:Shared) (σ:St) (H:Hp) (xs:List V) (us:List Value) (Q:VK),Inv X pins σ H s->ZZ xs us->r xs H Q ->
  wpAny (model X.prog X.w) X.A (call f us) (EP X pins σ Q) X.xe s
noncomputable def tOp (r:R2) (ta tb:TE):TE:=fun σ H Q=>ta σ H fun x H1=>tb σ H1 fun y H2=>r x y H2 Q
noncomputable def tUn (r:V->Hp->VK->Prop) (ta:TE):TE:=fun σ H Q=>ta σ H fun x H1=>r x H1 Q
noncomputable def rI (C:Int->Int->Prop) (g:Int->Int->V):R2:=fun x y H Q=>∃i j,x=.int i/\y=.int j/\C i j/\Q (g i j) H
noncomputable def rI0 (g:Int->Int->V):R2:=fun x y H Q=>∃i j,x=.int i/\y=.int j/\Q (g i j) H
def rU (g:Int->V):V->Hp->VK->Prop:=fun x H Q=>∃i,x=.int i/\Q (g i) H
section
variable {X:Cx}{a b:Expr}{ta tb:TE}{pos:Pos}
theorem Zht (ha:PE X a ta) (hb:PE X b tb) {pins:List (Addr×Obj)}{s:Shared}{σ:St}{H:Hp}{R:V->V->Hp->Prop} (I:Inv X pins σ H s)
  (h:ta σ H fun x H1=>tb σ H1 fun y H2=>R x y H2) {Q:Value->Shared->Prop}{f:Value->Value->Sem Value}
  (hf:∀v u s2 x y H2,Inv X pins σ H2 s2->Jq x v->Jq y u->R x y H2->wpAny (model X.prog X.w) X.A (f v u) Q X.xe s2) :
  wpAny (model X.prog X.w) X.A (eval a X.env) (fun v s₁=>wpAny (model X.prog X.w) X.A (eval b X.env) (fun u s₂=>wpAny (model X.prog X.w) X.A (f v u) Q X.xe s₂) X.xe s₁) X.xe s:=by
 refine thn (ha pins s σ H _ I h) fun v s1 ⟨x,H1,I1,r1,q1⟩=>?_
 refine thn (hb pins s1 σ H1 _ I1 q1) fun u s2 ⟨y,H2,I2,r2,q2⟩=>?_
 exact hf v u s2 x y H2 I2 r1 r2 q2
theorem Zr {op:Operator}{r:R2} (ho:OpR X (binaryOp op) r) (ha:PE X a ta) (hb:PE X b tb):PE X (.BinOp a op b pos) (tOp r ta tb):=by
 intro pins s σ H Q I h
 exact wpAny_BinOp (Zht ha hb I h fun v u s2 x y H2 I2 rx ry q=>ho pins s2 σ H2 x y v u Q I2 rx ry q)
theorem ZbO {op:UnaryOp}{r:V->Hp->VK->Prop} (ho:UnR X (unaryOp op) r) (ha:PE X a ta):PE X (.UnaryOp op a pos) (tUn r ta):=by
 intro pins s σ H Q I h
 exact UnaryOp_ (thn (ha pins s σ H _ I h) fun v s1 ⟨x,H1,I1,r1,q1⟩=>ho pins s1 σ H1 x v Q I1 r1 q1)
theorem opI {f:Value->Value->Sem Value}{C:Int->Int->Prop}{g:Int->Int->Int}
  (rule:∀(i j:Int) (t u:Tok) (s:Shared) (Q:Value->Shared->Prop) (E:Value->Shared->Prop),C i j->Q (.int (g i j) s.toks) { s with toks:=s.toks+1 }->wpAny (model X.prog X.w) X.A (f (.int i t) (.int j u)) Q E s) :
  OpR X f (rI C fun i j=>.int (g i j)):=by
 intro pins s σ H x y v u Q I rx ry h
 obtain⟨i,j,rfl,rfl,hc,q⟩:=h
 obtain⟨t,rfl⟩:=rx
 obtain⟨t',rfl⟩:=ry
 exact rule i j t t' s _ _ hc ⟨.int (g i j),H,I.tok _,⟨_,rfl⟩,q⟩
theorem ZhH {f:Value->Value->Sem Value}{g:Int->Int->Int}
  (rule:∀(i j:Int) (t u:Tok) (s:Shared) (Q:Value->Shared->Prop) (E:Value->Shared->Prop),Q (.int (g i j) s.toks) { s with toks:=s.toks+1 }->wpAny (model X.prog X.w) X.A (f (.int i t) (.int j u)) Q E s) :
  OpR X f (rI0 fun i j=>.int (g i j)):=by
 intro pins s σ H x y v u Q I rx ry h
 obtain⟨i,j,rfl,rfl,q⟩:=h
 obtain⟨t,rfl⟩:=rx
 obtain⟨t',rfl⟩:=ry
 exact rule i j t t' s _ _ ⟨.int (g i j),H,I.tok _,⟨_,rfl⟩,q⟩
theorem ZgK {f:Value->Value->Sem Value}{g:Int->Int->Bool}
  (rule:∀(i j:Int) (t u:Tok) (s:Shared) (Q:Value->Shared->Prop) (E:Value->Shared->Prop),Q (.bool (g i j)) s->wpAny (model X.prog X.w) X.A (f (.int i t) (.int j u)) Q E s) :
  OpR X f (rI0 fun i j=>.bl (g i j)):=by
 intro pins s σ H x y v u Q I rx ry h
 obtain⟨i,j,rfl,rfl,q⟩:=h
 obtain⟨t,rfl⟩:=rx
 obtain⟨t',rfl⟩:=ry
 exact rule i j t t' s _ _ ⟨.bl (g i j),H,I,rfl,q⟩
def ZhU (i j:Int):Prop:=0<=j/\j<=1000000/\i.natAbs<2^64
theorem ZP:OpR X (binaryOp .Add) (rI0 fun i j=>.int (i+j)):=ZhH fun _ _ _ _ _ _ _ q=>add_int q
theorem Vo:OpR X (binaryOp .Sub) (rI0 fun i j=>.int (i-j)):=ZhH fun _ _ _ _ _ _ _ q=>sub_int q
theorem ZW:OpR X (binaryOp .Mod) (rI (fun _ j=>0<j) fun i j=>.int (i%j)):=opI fun i j _ _ _ _ _ hc q=>by
 have h1:(0:Int)<j:=hc
 exact mod_int' (by omega) (by rw[Int.fmod_eq_emod_of_nonneg i (by omega)];exact q)
theorem unI {f:Value->Sem Value}{g:Int->Int}
  (rule:∀(i:Int) (t:Tok) (s:Shared) (Q:Value->Shared->Prop) (E:Value->Shared->Prop),Q (.int (g i) s.toks) { s with toks:=s.toks+1 }->wpAny (model X.prog X.w) X.A (f (.int i t)) Q E s) :
  UnR X f (rU fun i=>.int (g i)):=by
 intro pins s σ H x v Q I rx h
 obtain⟨i,rfl,q⟩:=h
 obtain⟨t,rfl⟩:=rx
 exact rule i t s _ _ ⟨.int (g i),H,I.tok _,⟨_,rfl⟩,q⟩
theorem Qg:UnR X (unaryOp .USub) (rU fun i=>.int (-i)):=unI fun _ _ _ _ _ q=>neg_int q
variable {c:Expr}{tc:TE}
theorem Zec {pins:List (Addr×Obj)}{σ:St}{H:Hp}{s:Shared}{Q:VK}{k k':Bool} (I:Inv X pins σ H s) (q:Q (.bl k) H) (e:k=k'):EP X pins σ Q (.bool k') s:=by
 subst e
 exact⟨.bl k,H,I,rfl,q⟩
theorem ZeO:OpR X (compareOp .Lt) (rI0 fun i j=>.bl (decide (i<j))):=ZgK fun _ _ _ _ _ _ _ q=>lt_int q
theorem ZaY:OpR X (compareOp .LtE) (rI0 fun i j=>.bl (decide (i<=j))):=ZgK fun _ _ _ _ _ _ _ q=>le_int q
theorem VM:OpR X (compareOp .Gt) (rI0 fun i j=>.bl (decide (j<i))):=ZgK fun _ _ _ _ _ _ _ q=>gt_int q
theorem Zhh:OpR X (compareOp .GtE) (rI0 fun i j=>.bl (decide (j<=i))):=ZgK fun _ _ _ _ _ _ _ q=>ge_int q
theorem ZfY:OpR X (compareOp .Is) (fun x y H Q=>y=.non/\Q (.bl (decide (x=.non))) H):=by
 intro pins s σ H x y v u Q I rx ry h
 obtain⟨rfl,q⟩:=h
 cases ry
 refine is_none_gen (Zec I q ?_)
 cases x<;>first
  |(cases rx;rfl)
  |(obtain⟨t,rfl⟩:=rx;rfl)
theorem ZeN:OpR X (compareOp .IsNot) (fun x y H Q=>y=.non/\Q (.bl (!decide (x=.non))) H):=by
 intro pins s σ H x y v u Q I rx ry h
 obtain⟨rfl,q⟩:=h
 cases ry
 refine isnot_none_gen (Zec I q ?_)
 cases x<;>first
  |(cases rx;rfl)
  |(obtain⟨t,rfl⟩:=rx;rfl)
theorem Zu (b:Expr) {op:CmpOp} (h:op≠.In:=by decide) (h2:op≠.NotIn:=by decide):behindInMarks op b=false:=by
 have e1:(op==CmpOp.In)=false:=by cases op<;>first|rfl|exact absurd rfl h
 have e2:(op==CmpOp.NotIn)=false:=by cases op<;>first|rfl|exact absurd rfl h2
 cases b<;>simp[behindInMarks,e1,e2]
theorem J1 {op:CmpOp}{r:R2} (ho:OpR X (compareOp op) r) (ha:PE X a ta) (hb:PE X b tb) (hm:behindInMarks op b=false):PE X (.Compare a [op] [b] pos) (tOp r ta tb):=by
 intro pins s σ H Q I h
 exact wpAny_Compare1 (Zht ha hb I h fun v u s2 x y H2 I2 rx ry q=>ho pins s2 σ H2 x y v u Q I2 rx ry q) hm
noncomputable def Zes (t:TE):TT:=fun σ H Q=>t σ H fun x H'=>∃k,x=.bl k/\Q k H'
theorem Zq {op:CmpOp}{r:R2} (ho:OpR X (compareOp op) r) (ha:PE X a ta) (hb:PE X b tb) (hm:behindInMarks op b=false):PT X (.Compare a [op] [b] pos) (Zes (tOp r ta tb)):=by
 intro pins s σ H Q I h
 refine wpAny_isTrue_Compare1 (thn (ha pins s σ H _ I h) fun v s1 ⟨x,H1,I1,r1,q1⟩=>thn (hb pins s1 σ H1 _ I1 q1) fun u s2 ⟨y,H2,I2,r2,q2⟩ =>
  thn (ho pins s2 σ H2 x y v u _ I2 r1 r2 q2) fun c s3 ⟨z,H3,I3,r3,k,e,q3⟩=>?_) hm
 subst e
 cases r3
 exact wpAny_truthy_bool ⟨H3,I3,q3⟩
noncomputable def ZdS (r r':R2) (ta tb tc:TE):TE:=fun σ H Q=>ta σ H fun x H1=>tb σ H1 fun y H2=>r x y H2 fun z H3=>∃k,z=.bl k /\
 (if k=true then tc σ H3 fun w' H4=>r' y w' H4 Q else Q (.bl false) H3)
theorem Zas {op op':CmpOp}{r r':R2} (ho:OpR X (compareOp op) r) (ho':OpR X (compareOp op') r') (ha:PE X a ta) (hb:PE X b tb) (hc:PE X c tc)
  (hm:lastMarks [op,op'] [b,c]=false:=by with_unfolding_all rfl):PT X (.Compare a [op,op'] [b,c] pos) (Zes (ZdS r r' ta tb tc)):=by
 intro pins s σ H Q I h
 refine isTrue_chain (thn (ha pins s σ H _ I h) fun v s1 ⟨x,H1,I1,r1,q1⟩=>test_link (thn (hb pins s1 σ H1 _ I1 q1) fun u s2 ⟨y,H2,I2,r2,q2⟩ =>
  thn (ho pins s2 σ H2 x y v u _ I2 r1 r2 q2) fun d s3 ⟨z,H3,I3,r3,k,e,q3⟩=>?_)) hm
 subst e
 cases r3
 refine wpAny_truthy_bool ?_
 cases k with
 |false =>
  obtain⟨k',e',q'⟩:=q3
  cases e'
  exact ite_ff ⟨H3,I3,q'⟩
 |true =>
  refine ite_tt (test_last (thn (hc pins s3 σ H3 _ I3 q3) fun w' s4 ⟨z',H4,I4,r4,q4⟩=>thn (ho' pins s4 σ H4 y z' u w' _ I4 r2 r4 q4) fun d' s5 ⟨z2,H5,I5,r5,k2,e2,q5⟩=>?_))
  subst e2
  cases r5
  exact wpAny_truthy_bool ⟨H5,I5,q5⟩
theorem U9:(sizeLine:Nat)<2^63:=by rw[sizeLine_eq];decide
theorem ZcR {x:V}{us:List Value} (r:ZZ [x] us):∃u,us=[u]/\Jq x u:=by
 cases r with
 |cons r1 r2=>cases r2;exact⟨_,rfl,r1⟩
theorem ZgS {x y:V}{us:List Value} (r:ZZ [x,y] us):∃u w',us=[u,w']/\Jq x u/\Jq y w':=by
 cases r with
 |cons r1 r2 =>
  cases r2 with
  |cons r3 r4=>cases r4;exact⟨_,_,rfl,r1,r3⟩
end
structure Cls (K:PySem.W.Frag) (C:Addr):Prop where
 pg:PySem.W.plainGet K C Str.empty=true
 hd:PySem.W.hasDictIn K C=true
 po:PySem.W.plainOver K C=true
 sa:PySem.W.findIn K (.ref C) "__setattr__"=some (some (.builtin "object.__setattr__"))
section
end
structure U0 (k:Nat) (A:Around):Prop where
 hd:A.handled=none
 dp:A.depth+3*k+5<recursionLimit
 un:A.units+16*k+200<cLine
theorem U0.mono {j k:Nat}{A:Around} (r:U0 k A) (h:j<=k):U0 j A:=⟨r.hd,by have:=r.dp;omega,by have:=r.un;omega⟩
theorem U0.deeper {k:Nat}{A:Around} (r:U0 (k+1) A) (env:Env):U0 k (A.deeper env):=
 ⟨r.hd,by have:=r.dp;show A.depth+1+3*k+5<_;omega,by have:=r.un;show A.units+3+16*k+200<_;omega⟩
theorem U0.depth {k:Nat}{A:Around} (r:U0 k A):A.depth<recursionLimit:=by have:=r.dp;omega
theorem U0.units {k:Nat}{A:Around} (r:U0 k A):A.units+64<cLine:=by have:=r.un;omega
noncomputable def Zet:TA:=fun _ H Q=>Q [] H
noncomputable def UI (ta:TE) (tr:TA):TA:=fun σ H Q=>ta σ H fun x H1=>tr σ H1 fun xs H2=>Q (x::xs) H2
section
variable {X:Cx}{e:Expr}{es:List Expr}{te:TE}{t:TA}{pos:Pos}
theorem Zh:PA X [] Zet:=fun _ _ _ _ H Q I h=>Calls.spliced_nil ⟨[],H,I,.nil,h⟩
theorem Zb (ha:PE X e te) (hr:PA X es t) (hs:starEach (e::es) X.env=(false,eval e X.env)::starEach es X.env:=by rfl):PA X (e::es) (UI te t):=by
 intro pos pins s σ H Q I h
 rw[hs]
 show wpAny _ _ (spliced ((false,eval e X.env)::backTo pos (starEach es X.env))) _ _ s
 refine Calls.spliced_cons (thn (ha pins s σ H _ I h) fun u s1 ⟨x,H1,I1,r1,q1⟩=>?_)
 exact thn (hr pos pins s1 σ H1 _ I1 q1) fun us s2 ⟨xs,H2,I2,r2,q2⟩=>⟨x::xs,H2,I2,.cons r1 r2,q2⟩
noncomputable def ZgV (t:TA):TE:=fun σ H Q=>t σ H fun xs H1=>xs.length<=sizeLine/\∀p,H1 p=none->Q (.ref p) (upd H1 p (.tup xs))
noncomputable def ZgX (t:TA):TE:=fun σ H Q=>t σ H fun xs H1=>xs.length<=sizeLine/\∀p,H1 p=none->Q (.ref p) (upd H1 p (.lst xs))
theorem ZbP {x1} (h:PA X es t):PE X (.Tuple es x1 pos) (ZgV t):=by
 intro pins s σ H Q I hq
 refine wpAny_Tuple_spliced (thn (h pos pins s σ H _ I hq) fun us s1 ⟨xs,H1,I1,r,z,q⟩=>⟨by rw[<- r.length];exact z, ?_⟩)
 have hf:H1 s1.heap.objs.size=none:=I1.hok.fresh (ZlY _)
 refine⟨.ref s1.heap.objs.size,upd H1 s1.heap.objs.size (.tup xs),I1.laid (t':=s1.toks) (fun b u e=>Heap.get?_push_of_some _ e) (ZlY _) ?_,rfl,q _ hf⟩
 exact⟨z,us,r,⟨_,Heap.get?_push_size _ rfl,rfl,_,rfl⟩⟩
theorem J7 (h:PA X es t):PE X (.List es pos) (ZgX t):=by
 intro pins s σ H Q I hq
 refine wpAny_List_spliced (thn (h pos pins s σ H _ I hq) fun us s1 ⟨xs,H1,I1,r,z,q⟩=>⟨by rw[<- r.length];exact z, ?_⟩)
 have hf:H1 s1.heap.objs.size=none:=I1.hok.fresh (ZlY _)
 refine⟨.ref s1.heap.objs.size,upd H1 s1.heap.objs.size (.lst xs),I1.laid (t':=s1.toks) (fun b u e=>Heap.get?_push_of_some _ e) (ZlY _) ?_,rfl,q _ hf⟩
 exact⟨z,us,0,r,Heap.get?_push_size _ rfl⟩
end
noncomputable abbrev Sp:=List V->Hp->VK->XK->Prop
noncomputable abbrev CXT:=List Env->Hp->Shared->XK->Value->Shared->Prop
structure ZgP (P:Program) (w:World) (K:PySem.W.Frag) (mg:Str->Option Value) (base:Heap) (A:Around) (outer:List Env) (s:Shared) (H:Hp):Prop where
 frames:A.frames=some outer
 mod:Mod K mg base
 bs:∀b o,base.get? b=some o->s.heap.get? b=some o/\H b=none
 bsz:base.objs.size<=s.heap.objs.size
 funs:s.heap.FunFrames base outer
 frf:∀b∈frs outer,H b=none
 hok:HOk P w H s.heap
 bare:AllBare s.gens
def CE (outer:List Env) (P:Program) (w:World) (H:Hp) (s:Shared) (Q:VK) (u:Value) (s':Shared):Prop:=
 ∃v H',s'.os=s.os/\AllBare s'.gens/\Un (frs outer) [] H H' s.heap s'.heap/\HOk P w H' s'.heap/\Jq v u/\Q v H'
def CR (CX:CXT) (outer:List Env) (P:Program) (w:World) (H:Hp) (s:Shared) (Q:VK) (E:XK) (r:Result) (s':Shared):Prop:=
 match r with
 |.ok (.ret u)=>CE outer P w H s Q u s'
 |.ok _=>False
 |.error e=>CX outer H s E e s'
structure Va (P:Program) (w:World) (K:PySem.W.Frag) (mg:Str->Option Value) (base:Heap) (CX:CXT) (k:Nat) (f:Addr) (fd:FuncData) (ps:List Str) (sp:Sp):Prop where
 len:∀vs H Q E,sp vs H Q E->vs.length=ps.length
 run:∀(A:Around) (outer:List Env) (s:Shared) (H:Hp) (args:Args) (us:List Value) (vs:List V) (Q:VK) (E:XK),U0 k A->ZgP P w K mg base A outer s H->BindsTo s fd args (ps.zip us)->ZZ vs us->sp vs H Q E ->
  codeAny (model P w) A (.call (.ref f) args) (CR CX outer P w H s Q E) s
section
variable {X:Cx}{pins:List (Addr×Obj)}{σ:St}{H:Hp}{s s':Shared}
theorem Inv.env0 (I:Inv X pins σ H s):ZgP X.prog X.w X.K X.mg X.base X.A X.stack s H:=
 ⟨I.ok.frames,I.ok.mod,I.bs,Zml I.ok.bsz I.sz,I.stack,I.stkFree,I.hok,I.bare⟩
theorem Inv.after {Q:VK}{u:Value} (I:Inv X pins σ H s) (h:CE X.stack X.prog X.w H s Q u s'):EP X pins σ Q u s':=by
 obtain⟨v,H',os,bare,un,hok,r,q⟩:=h
 obtain⟨hh,g,d,t,os'⟩:=s'
 obtain rfl:os'=s.os:=os
 exact⟨v,H',I.call (h':=hh) (g':=g) (d':=d) (t':=t) (ch:=[]) un hok bare (fun b z=>absurd z (by simp)),r,q⟩
end
noncomputable def ZgY (sp:Sp) (dvs:List V) (E:XK) (t:TA):TE:=fun σ H Q=>t σ H fun vs H1=>sp (vs++dvs) H1 Q E
def Zaj (K:W.Frag) (fd:FuncData) (ps:List Str) (ds:List Value):Prop:=
 ∀(s:Shared) (us:List Value),K.In s.heap->(us++ds).length=ps.length->BindsTo s fd ⟨us,[]⟩ (ps.zip (us++ds))
theorem Zaj.all {K:W.Frag}{fd:FuncData}{ps:List Str} (h:∀us:List Value,us.length=ps.length->bindArgs fd ⟨us,[]⟩=pure (ps.zip us)):Zaj K fd ps []:=fun s us _ hl=>by
 rw[ZmF] at hl ⊢
 exact .of_eq (h us hl)
def ZcM (CX:CXT) (X:Cx) (E:XK):Prop:=∀(pins:List (Addr×Obj)) (σ:St) (H:Hp) (s:Shared) (e:Value) (s':Shared),Inv X pins σ H s->CX X.stack H s E e s'->X.xe e s'
section
variable {X:Cx}{CX:CXT}{k:Nat}{f:Addr}{fd:FuncData}{ps:List Str}{sp:Sp}{dvs:List V}{ds:List Value}{E:XK}{x:Str}{p pos:Pos}{e:Expr}{es:List Expr}{t:TA}
theorem Zf9 {pins:List (Addr×Obj)}{σ:St}{H:Hp}{s:Shared}{Q:VK}{us:List Value}{vs:List V} (F:Va X.prog X.w X.K X.mg X.base CX k f fd ps sp) (hr:U0 k X.A) (hb:Zaj X.K fd ps ds) (hd:ZZ dvs ds) (hx:ZcM CX X E)
  (I:Inv X pins σ H s) (r:ZZ vs us) (h:sp (vs++dvs) H Q E):wpAny (model X.prog X.w) X.A (call (.ref f) us) (EP X pins σ Q) X.xe s:=by
 have r2:ZZ (vs++dvs) (us++ds):=r.append hd
 have hl:(us++ds).length=ps.length:=by rw[<- r2.length];exact F.len _ _ _ _ h
 refine wpAny_call (codeAny_mono (F.run X.A X.stack s H ⟨us,[]⟩ (us++ds) (vs++dvs) Q E hr I.env0 (hb s us I.kIn hl) r2 h) fun r s' hq=>?_)
 cases r with
 |error e=>exact hx pins σ H s e s' I hq
 |ok fl =>
  cases fl with
  |ret u=>exact I.after hq
  |next=>exact False.elim hq
  |brk=>exact False.elim hq
  |cont=>exact False.elim hq
theorem Ze8 (F:Va X.prog X.w X.K X.mg X.base CX k f fd ps sp) (hr:U0 k X.A) (hg:Gl X x) (hm:X.mg x=some (.ref f)) (hk:PySem.W.keepIn X.K (.ref f)=true) (hb:Zaj X.K fd ps ds) (hd:ZZ dvs ds) (hx:ZcM CX X E)
  (ha:PA X (e::es) t) (hdb:(x==("__debug__":Str))=false:=by decide) (he:starEach (e::es) X.env=(false,eval e X.env)::starEach es X.env:=by rfl) (hpl:(backTo pos (starEach es X.env)).any (·.1)=false:=by rfl) :
  PE X (.Call (.Name x p) (e::es) [] pos) (ZgY sp dvs E t):=by
 intro pins s σ H Q I h
 refine wpAny_Call_Name_kw (UU I hg hm ?_ hdb)
 refine PySem.W.callWith_K (h₀:=X.base) I.ok.mod.kin hk (thn (ha pos pins s σ H _ I h) fun us s1 ⟨vs,H1,I1,r,q⟩=>⟨I1.kIn, ?_⟩) he hpl
 exact Zf9 F hr hb hd hx I1 r q
end
structure ZF (N P:List Str) (sc:Scope):Prop where
 kind:sc.kind=.function
 co:sc.isCoroutine=false
 gen:sc.isGenerator=false
 nd:N.Nodup
 pre:N.take P.length=P
 par:∀x∈P,sc.names.lookup x=some .local\/sc.names.lookup x=some .cell
 nofree:∀y∈sc.names,y.2≠.free
theorem QF {kindOf:Str->Option NameKind}{x:Str}:∀{binds:List (Str×Value)}{m:Str->Option Value},(∀v,(x,v) ∉ binds)->bindL kindOf binds m x=m x
 |[],_,_=>rfl
 |(n,v)::r,m,h=>by
  unfold bindL
  rw[QF fun w hw=>h w (Zm2 _ hw)]
  split
  ·have:x≠n:=by rintro rfl;exact h v ZmU
   simp[this]
  ·rfl
theorem QH {kindOf:Str->Option NameKind}{x:Str}:∀{binds:List (Str×Value)}{m:Str->Option Value},(∀v,(x,v) ∉ binds)->bindC kindOf binds m x=m x
 |[],_,_=>rfl
 |(n,v)::r,m,h=>by
  unfold bindC
  rw[QH fun w hw=>h w (Zm2 _ hw)]
  split
  ·rfl
  ·have:x≠n:=by rintro rfl;exact h v ZmU
   simp[this]
theorem QG {kindOf:Str->Option NameKind}{x:Str}{v:Value}:∀{P:List Str}{vs:List Value}{i:Nat}{m:Str->Option Value},P.Nodup->P[i]?=some x->vs[i]?=some v->kindOf x=some .local ->
  bindL kindOf (P.zip vs) m x=some v
 |[],_,_,_,_,h,_,_=>by simp at h
 |_::_,[],_,_,_,_,h,_=>by simp at h
 |p::P,w::vs,0,m,nd,h1,h2,hk=>by
  simp at h1 h2;subst h1;subst h2
  show bindL kindOf ((p,w)::P.zip vs) m p=_
  unfold bindL
  rw[QF fun v hv=>(Zni.mp nd).1 (Znt hv).1,if_pos hk]
  simp
 |p::P,w::vs,i+1,m,nd,h1,h2,hk=>by
  show bindL kindOf ((p,w)::P.zip vs) m x=_
  unfold bindL
  exact QG (i:=i) (Zni.mp nd).2 (by simpa using h1) (by simpa using h2) hk
theorem QI {kindOf:Str->Option NameKind}{x:Str}{v:Value}:∀{P:List Str}{vs:List Value}{i:Nat}{m:Str->Option Value},P.Nodup->P[i]?=some x->vs[i]?=some v->kindOf x≠some .local ->
  bindC kindOf (P.zip vs) m x=some v
 |[],_,_,_,_,h,_,_=>by simp at h
 |_::_,[],_,_,_,_,h,_=>by simp at h
 |p::P,w::vs,0,m,nd,h1,h2,hk=>by
  simp at h1 h2;subst h1;subst h2
  show bindC kindOf ((p,w)::P.zip vs) m p=_
  unfold bindC
  rw[QH fun v hv=>(Zni.mp nd).1 (Znt hv).1,if_neg hk]
  simp
 |p::P,w::vs,i+1,m,nd,h1,h2,hk=>by
  show bindC kindOf ((p,w)::P.zip vs) m x=_
  unfold bindC
  exact QI (i:=i) (Zni.mp nd).2 (by simpa using h1) (by simpa using h2) hk
noncomputable def VL (N:List Str) (vs:List V):St:=vs.map some++List.replicate (N.length-vs.length) none
noncomputable def QK (CX:CXT) (P:Program) (w:World) (K:W.Frag) (mg:Str->Option Value) (base:Heap) (N:List Str) (qual:Str) (scope:Scope) (f:Addr) (cd:Value) (A:Around) (outer:List Env) (s:Shared) (H:Hp) (E:XK):Cx where
 prog:=P
 w:=w
 K:=K
 mg:=mg
 base:=base
 A:=A.deeper (envOfC qual scope s.heap.objs.size f cd)
 N:=N
 s₀:=s
 H₀:=H
 env:=envOfC qual scope s.heap.objs.size f cd
 outer:=outer
 stack:=envOfC qual scope s.heap.objs.size f cd::outer
 ex:=[]
 calm:=true
 fn:=fun _=>true
 pn:=[]
 xe:=fun e s'=>wpAny (model P w) (A.deeper (envOfC qual scope s.heap.objs.size f cd)) (leaving (envOfC qual scope s.heap.objs.size f cd) e) (fun _ s''=>CX outer H s E e s'') (fun e' s''=>CX outer H s E e' s'') s'
theorem ZaO {sc:Scope}{n:Nat}{x:Str} (h:sc.names.lookup x=some .cell):∃c,(cellsFrom n sc.names []).lookup x=some c:=by
 have q:=PySem.W.cellsFrom_some sc.names n [] (.inl h)
 exact Option.isSome_iff_exists.mp q
theorem Zcw {CX:CXT}{P:Program}{w:World}{K:W.Frag}{mg:Str->Option Value}{base:Heap}{N ps:List Str}{qual:Str}{scope:Scope}{f:Addr}{cd:Value}{A:Around}{outer:List Env}{s s1:Shared}{H:Hp}{E:XK}{us:List Value}{vs:List V}
  (S:ZF N ps scope) (hd:A.handled=none) (e0:ZgP P w K mg base A outer s H) (hl:vs.length=ps.length) (r:ZZ vs us)
  (x:InCallC s s.heap.objs.size (bindL (envOfC qual scope s.heap.objs.size f cd).kindOf (ps.zip us) fun _=>none) (cellsFrom (s.heap.objs.size+1) scope.names []) (bindC (envOfC qual scope s.heap.objs.size f cd).kindOf (ps.zip us) fun _=>none) s1) :
  Inv (QK CX P w K mg base N qual scope f cd A outer s H E) [] (VL N vs) H s1:=by
 have hpl:ps.length<=N.length:=by have:=congrArg List.length S.pre;rw[ZmM] at this;omega
 obtain⟨h1,tk,rfl,hk⟩:=x.done
 have noA:∀b:Addr,b ∉ (QK CX P w K mg base N qual scope f cd A outer s H E).ex:=fun b z=>absurd (show b∈([]:List Addr) from z) (by simp)
 refine⟨⟨e0.mod,S.kind,rfl,rfl,ZlY _,fun y z c h1 h2=>?_,fun y hy=>?_,fun y c _ h=>?_,fun _=>hd,Around.frames_deeper e0.frames,.inr ⟨rfl,rfl⟩,fun b z=>absurd z (noA b),e0.bs,e0.bsz,fun b _ _=>noA b,fun b z=>absurd z (noA b),e0.funs,e0.frf⟩,
  rfl,e0.bare,Un.kept hk,⟨_,x.toInCall.ns,fun i y v h1 h2 h3=>?_⟩,fun y c h=>⟨_,x.cell y c h⟩,e0.hok.fresh (ZlY _),fun y c h=>?_,fun p hp=>absurd (show p∈([]:List (Addr×Obj)) from hp) (by simp),e0.hok.kept hk, ?_⟩
 ·exact name_of_addr x.apart (PySem.mem_of_lookup h1) (PySem.mem_of_lookup h2)
 ·have hy:scope.names.lookup y=some .cell\/scope.names.lookup y=some .free:=hy
  rcases hy with hy|hy
  ·exact ZaO hy
  ·exact absurd rfl (S.nofree _ (PySem.mem_of_lookup hy))
 ·exact Zns (x.above y c (PySem.mem_of_lookup h))
 ·have hi:i<vs.length:=by
   unfold VL at h2
   by_cases hi:i<vs.length
   ·exact hi
   ·rw[ZlZ (by simpa using hi)] at h2
    rw[Zm7] at h2
    split at h2<;>cases h2
  have ha:vs[i]?=some v:=by
   unfold VL at h2
   rw[ZlV (by simpa using hi),Zmm] at h2
   cases e:vs[i]? with
   |none=>rw[e] at h2;cases h2
   |some a=>rw[e] at h2;cases h2;rfl
  obtain⟨u,hu,rv⟩:=r.get ha
  have hp:ps[i]?=some y:=by
   rw[<- S.pre,ZmG (by omega)];exact h1
  have ndP:ps.Nodup:=by rw[<- S.pre];exact S.nd.sublist (List.take_sublist _ _)
  refine⟨u,rv, ?_⟩
  rcases S.par y (ZmR hp) with k|k
  ·exact .inl ⟨k,QG ndP hp hu k⟩
  ·obtain⟨c,e⟩:=ZaO (n:=s.heap.objs.size+1) k
   refine .inr ⟨.inl k,c,e, ?_⟩
   have q:=x.cell y c e
   rw[QI ndP hp hu (by show scope.names.lookup y≠_;rw[k];decide)] at q
   exact q
 ·exact e0.hok.fresh (Zns (x.above y c (PySem.mem_of_lookup h)))
 ·unfold VL
  show _=N.length
  rw[Zmx,Zmh,Zm1]
  omega
theorem Zgx {CX:CXT}{P:Program}{w:World}{K:W.Frag}{mg:Str->Option Value}{base:Heap}{k:Nat}{f:Addr}{name qual:Str}{params:Arguments}{body:List Stmt}{scope:Scope}{dV kV doc pm cdv ct oc:Value}{an od:Option Addr}
  {osl:Array (Option Value)}{N ps:List Str}{sp:Sp} (lk:K.lookup f=some ⟨oc,od,.func (PySem.W.fnOf name qual params body scope dV kV doc pm an cdv ct),osl⟩) (hcd:PySem.W.codeIn K cdv qual=true) (S:ZF N ps scope)
  (len:∀vs H Q E,sp vs H Q E->vs.length=ps.length)
  (hbody:∀(A:Around) (outer:List Env) (s:Shared) (H:Hp) (vs:List V) (Q:VK) (E:XK),U0 k (A.deeper (envOfC qual scope s.heap.objs.size f cdv))->sp vs H Q E ->
   ∃t,PSs (QK CX P w K mg base N qual scope f cdv A outer s H E) body t/\t { nx:=fun _ H'=>Q .non H',rt:=Q } (VL N vs) H) :
  Va P w K mg base CX (k+1) f (PySem.W.fnOf name qual params body scope dV kV doc pm an cdv ct) ps sp:=by
 refine⟨len,fun A outer s H args us vs Q E hr e0 hb r hsp=>?_⟩
 have hl:=len _ _ _ _ hsp
 have KX:K.In s.heap:=e0.mod.kin.keeps fun b o e=>(e0.bs b o e).1
 have lim:s.heap.NoLimit:=e0.mod.nolimit.keeps fun b o e=>(e0.bs b o e).1
 have hkind:∀y∈ps.zip us,scope.names.lookup y.1=some .local\/(scope.names.lookup y.1=some .cell/\((cellsFrom (s.heap.objs.size+1) scope.names []).lookup y.1).isSome=true):=fun⟨n,v⟩ hy=>by
  rcases S.par n (Znt hy).1 with q|q
  ·exact .inl q
  ·exact .inr ⟨q,PySem.W.cellsFrom_some _ _ _ (.inl q)⟩
 refine codeAny_call_function hr.depth (KX _ _ lk) rfl S.co S.gen rfl (PySem.W.codeRec_of KX hcd) (hb _ _ _ _ ?_)
 refine wpAny_newFunctionEnv_cells S.kind hkind fun env he s1 x=>?_
 subst he
 refine⟨lim.keeps x.toInCall.keep,codeAny_func ?_⟩
 obtain⟨t,ht,hq⟩:=hbody A outer s H vs Q E (hr.deeper _) hsp
 have I:Inv (QK CX P w K mg base N qual scope f cdv A outer s H E) [] (VL N vs) H s1:=Zcw S hr.hd e0 hl r x
 refine wpAny_mono (ht [] s1 (VL N vs) H _ I hq) (fun fl s' hs=>?_) fun e s' hs=>hs
 have fin:∀{σ':St}{H':Hp}{v:V}{u:Value},Inv (QK CX P w K mg base N qual scope f cdv A outer s H E) [] σ' H' s'->Jq v u->Q v H'->CE outer P w H s Q u s':=
  fun {σ' H' v u} J rv q=>⟨v,H',J.os,J.bare,J.base,J.hok,rv,q⟩
 cases fl with
 |ret u =>
  obtain⟨v,σ',H',J,rv,q⟩:=hs
  exact fin J rv q
 |next =>
  obtain⟨σ',H',J,q⟩:=hs
  exact fin (v:=V.non) (u:=Value.none) J rfl q
 |brk =>
  obtain⟨_,_,_,q⟩:=hs
  exact False.elim q
 |cont =>
  obtain⟨_,_,_,q⟩:=hs
  exact False.elim q
section
variable {X:Cx}{x:Str}{p pos:Pos}{e:Expr}{es:List Expr}{t:TA}{id T:String}{r:List V->Hp->VK->Prop}
noncomputable def tCB (r:List V->Hp->VK->Prop) (t:TA):TE:=fun σ H Q=>t σ H fun vs H1=>r vs H1 Q
theorem Zt (hc:VP X (.builtin id) r) (hg:Gl X x) (hm:X.mg x=none) (hv:bootBuiltins x=some (.builtin id)) (ha:PA X (e::es) t) (hn:x ≠ "__name__":=by decide) (hdb:(x==("__debug__":Str))=false:=by decide)
  (he:starEach (e::es) X.env=(false,eval e X.env)::starEach es X.env:=by rfl) (hpl:(backTo pos (starEach es X.env)).any (·.1)=false:=by rfl):PE X (.Call (.Name x p) (e::es) [] pos) (tCB r t):=by
 intro pins s σ H Q I h
 refine wpAny_Call_Name_kw (UA I hg hm hv ?_ hn hdb)
 exact PyProof.Rows.callWith_builtin1 (thn (ha pos pins s σ H _ I h) fun us s1 ⟨vs,H1,I1,r1,q1⟩=>hc pins s1 σ H1 vs us Q I1 r1 q1) he hpl
theorem JP (hc:VP X (.type T) r) (hg:Gl X x) (hm:X.mg x=none) (hv:bootBuiltins x=some (.type T)) (ha:PA X (e::es) t) (hn:x ≠ "__name__":=by decide) (hdb:(x==("__debug__":Str))=false:=by decide)
  (he:starEach (e::es) X.env=(false,eval e X.env)::starEach es X.env:=by rfl) (hpl:(backTo pos (starEach es X.env)).any (·.1)=false:=by rfl):PE X (.Call (.Name x p) (e::es) [] pos) (tCB r t):=by
 intro pins s σ H Q I h
 refine wpAny_Call_Name_kw (UA I hg hm hv ?_ hn hdb)
 exact PyProof.Rows.callWith_type1 (thn (ha pos pins s σ H _ I h) fun us s1 ⟨vs,H1,I1,r1,q1⟩=>hc pins s1 σ H1 vs us Q I1 r1 q1) he hpl
end
end L2
namespace HT
open PySem PyProof.Rows
section
open PySem.SeqAt
open PySem.AutoSeq1 (wpAny_loadPart')
open PySem.MeetsSeq PySem.MeetsSeq2 PySem.MeetsSeq3
end
section
noncomputable def sIx (n d:Nat):Option Int->Nat
 |none=>d
 |some v=>if v<0 then (v+(n:Int)).toNat else min v.toNat n
end
end HT
namespace L2
open PySem PySem.Spec PyProof.Rows
noncomputable abbrev TO:=St->Hp->(Option Int->Hp->Prop)->Prop
def PO (X:Cx) (e:Option Expr) (t:TO):Prop:=
 ∀(pins:List (Addr×Obj)) (s:Shared) (σ:St) (H:Hp) (Q:Option Int->Hp->Prop),Inv X pins σ H s->t σ H Q ->
  wpAny (model X.prog X.w) X.A (evalPart e X.env) (fun u s'=>∃o H',Inv X pins σ H' s'/\IsPart u o/\Q o H') X.xe s
noncomputable def Zb0:TO:=fun _ H Q=>Q none H
noncomputable def Zf3 (t:TE):TO:=fun σ H Q=>t σ H fun x H1=>∃i,x=.int i/\Q (some i) H1
theorem Zbf {ns:List Int}:∀{us:List Value},ZZ (ns.map V.int) us->IntsAre us ns:=by
 induction ns with
 |nil=>intro us r;rw[Zmn] at r;cases r;exact .nil
 |cons n ns ih =>
  intro us r
  rw[Zmd] at r
  cases r with
  |cons r1 r2 =>
   obtain⟨t,e⟩:=r1
   subst e
   exact .cons n t (ih r2)
section
variable {X:Cx}{e:Expr}{te:TE}{lo hi:Option Expr}{tl th:TO}{pos p2:Pos}
theorem ZbL:PO X none Zb0:=by
 intro pins s σ H Q I h
 rw[evalPart_none]
 exact wpAny_pure ⟨none,H,I,.none,h⟩
theorem ZbK (h:PE X e te):PO X (some e) (Zf3 te):=by
 intro pins s σ H Q I hw
 rw[evalPart_some]
 refine thn (h pins s σ H _ I hw) fun u s1 ⟨x,H1,I1,r1,q1⟩=>?_
 obtain⟨i,rfl,q⟩:=q1
 obtain⟨t,rfl⟩:=r1
 exact⟨some i,H1,I1,.int i t,q⟩
def SlR (X:Cx) (r:V->Option Int->Option Int->Hp->VK->Prop):Prop:=
 ∀(pins:List (Addr×Obj)) (s:Shared) (σ:St) (H:Hp) (x:V) (v vl vu:Value) (lo hi:Option Int) (sl:Addr) (Q:VK),Inv X pins σ H s->Jq x v->s.heap.IsSliceOf sl vl vu .none->IsPart vl lo->IsPart vu hi->r x lo hi H Q ->
  ∃T id,typeLookup (.type T) "__getitem__"=pure (some (.builtin id))/\s.TypeIs v T/\wpAny (model X.prog X.w) X.A (getItem v (.ref sl)) (EP X pins σ Q) X.xe s
noncomputable def tSl (r:V->Option Int->Option Int->Hp->VK->Prop) (te:TE) (tl th:TO):TE:=fun σ H Q=>te σ H fun x H1=>tl σ H1 fun l H2=>th σ H2 fun u H3=>r x l u H3 Q
theorem Zax {r:V->Option Int->Option Int->Hp->VK->Prop} (hr:SlR X r) (he:PE X e te) (hl:PO X lo tl) (hu:PO X hi th):PE X (.Subscript e (.Slice lo hi none p2) pos) (tSl r te tl th):=by
 intro pins s σ H Q I h
 refine Subscript_ (thn (he pins s σ H _ I h) fun v s1 ⟨x,H1,I1,r1,q1⟩=>?_)
 refine wpAny_Slice (thn (hl pins s1 σ H1 _ I1 q1) fun vl s2 ⟨l,H2,I2,pl,q2⟩=>thn (hu pins s2 σ H2 _ I2 q2) fun vu s3 ⟨u,H3,I3,pu,q3⟩=>?_)
 rw[evalPart_none]
 refine wpAny_pure ?_
 have I4:Inv X pins σ H3 { s3 with heap:=s3.heap.push { cls:=.type "slice",data:=.fields #[vl,vu,.none] } }:=I3.kept (t':=s3.toks) fun b ob q=>Heap.get?_push_of_some _ q
 obtain⟨T,id,hT,ht,hg⟩:=hr pins { s3 with heap:=s3.heap.push { cls:=.type "slice",data:=.fields #[vl,vu,.none] } } σ H3 x v vl vu l u s3.heap.objs.size Q I4 r1 (Heap.IsSliceOf.new ..) pl pu q3
 show wpAny (model X.prog X.w) X.A (subscriptTail e (.Slice lo hi none p2) v (.ref s3.heap.objs.size)) (EP X pins σ Q) X.xe { s3 with heap:=s3.heap.push { cls:=.type "slice",data:=.fields #[vl,vu,.none] } }
 exact tail_any (ops:=[.ref s3.heap.objs.size,v]) ht hT hg (by with_unfolding_all rfl)
noncomputable def Zfx (xs:List V) (lo hi:Option Int):List V:=(xs.drop (HT.sIx xs.length 0 lo)).take (HT.sIx xs.length xs.length hi-HT.sIx xs.length 0 lo)
theorem Zaa (xs:List V) (lo hi:Option Int):(Zfx xs lo hi).length<=xs.length:=by
 unfold Zfx
 rw[ZmM,ZmE]
 omega
end
noncomputable def ixN (n:Nat) (i:Int):Option Nat:=if 0<=i then (if i<n then some i.toNat else none) else if -(n:Int)<=i then some (i+n).toNat else none
noncomputable def atI {α:Type} (xs:List α) (i:Int):Option α:=(ixN xs.length i).bind fun j=>xs[j]?
theorem Zcs {n:Nat}{i:Int}{j:Nat} (h:ixN n i=some j):seqIndex? i n=some j/\j<n/\-(n:Int)<=i/\i<n:=by
 unfold ixN at h
 by_cases h0:0<=i
 ·rw[if_pos h0] at h
  by_cases h1:i<n
  ·rw[if_pos h1] at h
   have e:i.toNat=j:=Option.some.inj h
   exact⟨by rw[seqIndex_of h0 h1,e],by omega,by omega,h1⟩
  ·rw[if_neg h1] at h;cases h
 ·rw[if_neg h0] at h
  by_cases h1:-(n:Int)<=i
  ·rw[if_pos h1] at h
   have e:(i+n).toNat=j:=Option.some.inj h
   exact⟨by rw[seqIndex_neg (by omega) h1,e],by omega,h1,by omega⟩
  ·rw[if_neg h1] at h;cases h
theorem Qa {α:Type}{xs:List α}{i:Int}{v:α} (h:atI xs i=some v):∃j,seqIndex? i xs.length=some j/\xs[j]?=some v/\j<xs.length/\-(xs.length:Int)<=i/\i<xs.length:=by
 unfold atI at h
 cases e:ixN xs.length i with
 |none=>rw[e] at h;cases h
 |some j =>
  rw[e] at h
  obtain⟨h1,h2,h3,h4⟩:=Zcs e
  exact⟨j,h1,h,h2,h3,h4⟩
def Zfr (b:Expr):Prop:=∀o i,subscripted b false o i=operate [o,i] (getItem o i)
def IxR (X:Cx) (r:R2):Prop:=
 ∀(value slice:Expr) (pins:List (Addr×Obj)) (s:Shared) (σ:St) (H:Hp) (x y:V) (v u:Value) (Q:VK),Inv X pins σ H s->Jq x v->Jq y u->r x y H Q ->
  subscripted slice false v u=operate [v,u] (getItem v u)->wpAny (model X.prog X.w) X.A (subscriptTail value slice v u) (EP X pins σ Q) X.xe s
def MtR (X:Cx) (id:String) (r:V->List V->Hp->VK->Prop):Prop:=
 ∀(pins:List (Addr×Obj)) (s:Shared) (σ:St) (H:Hp) (x:V) (xs:List V) (v:Value) (us:List Value) (Q:VK),Inv X pins σ H s->Jq x v->ZZ xs us->r x xs H Q ->
  wpAny (model X.prog X.w) X.A (call (.builtin id) (v::us)) (EP X pins σ Q) X.xe s
section
variable {X:Cx}{a b:Expr}{ta tb:TE}{pos:Pos}
theorem IxR.or {r r':R2} (h:IxR X r) (h':IxR X r'):IxR X (fun x y H Q=>r x y H Q\/r' x y H Q):=by
 intro value slice pins s σ H x y v u Q I rx ry q hs
 rcases q with q|q
 ·exact h value slice pins s σ H x y v u Q I rx ry q hs
 ·exact h' value slice pins s σ H x y v u Q I rx ry q hs
theorem ZJ {r:R2} (hr:IxR X r) (ha:PE X a ta) (hb:PE X b tb) (hs:Zfr b):PE X (.Subscript a b pos) (tOp r ta tb):=by
 intro pins s σ H Q I h
 exact Subscript_ (Zht ha hb I h fun v u s2 x y H2 I2 rx ry q=>hr a b pins s2 σ H2 x y v u Q I2 rx ry q (hs _ _))
noncomputable def ZfD (K:W.Frag):R2:=fun x y H Q=>∃p xs i v,x=.ref p/\y=.int i/\SqL K H p xs/\atI xs i=some v/\Q v H
noncomputable def ZhB (K:W.Frag):R2:=fun x y H Q=>∃p xs i v,x=.ref p/\y=.int i/\SqT K H p xs/\atI xs i=some v/\Q v H
noncomputable def ZhC:R2:=fun x y H Q=>∃z i c,x=.str z/\y=.int i/\z.length<=sizeLine/\atI z.cps.toList i=some c/\Q (.str ⟨#[c]⟩) H
theorem ZeS:IxR X (ZfD X.K):=by
 intro value slice pins s σ H x y v u Q I rx ry h hs
 obtain⟨p,xs,i,z,rfl,rfl,hq,he,q⟩:=h
 cases rx
 obtain⟨t,rfl⟩:=ry
 obtain⟨its,r,pl,hz⟩:=I.list hq
 obtain⟨j,h1,h2,h3,h4,h5⟩:=Qa he
 obtain⟨w,ew,rw'⟩:=r.get h2
 have hl:=r.length
 have hn:=U9
 have fin:EP X pins σ Q w s:=⟨z,H,I,rw',q⟩
 by_cases h0:0<=i
 ·have hj:i.toNat=j:=by
   rw[seqIndex_of h0 h5] at h1
   exact Option.some.inj h1
  exact item_listR pl.isList h0 (by omega) (by rw[hj];simpa using ew) fin hs
 ·have hj:(i+(its.toArray.size:Int)).toNat=j:=by
   rw[seqIndex_neg (by omega) h4] at h1
   rw[ZlW,<- hl]
   exact Option.some.inj h1
  exact subscriptTail_builtinR (x:=w) pl.isList.typeIs slot_list_getitem.lookup
   (wpAny_getItem_list_neg (Q:=fun r s'=>r=w/\EP X pins σ Q r s') pl.isList (by omega) (by rw[ZlW]<;>omega) (by omega) (by rw[hj];simpa using ew) ⟨rfl,fin⟩) hs
theorem Zgp:IxR X (ZhB X.K):=by
 intro value slice pins s σ H x y v u Q I rx ry h hs
 obtain⟨p,xs,i,z,rfl,rfl,hq,he,q⟩:=h
 cases rx
 obtain⟨t,rfl⟩:=ry
 obtain⟨its,r,pl,hz⟩:=I.tuple hq
 obtain⟨j,h1,h2,h3,h4,h5⟩:=Qa he
 obtain⟨w,ew,rw'⟩:=r.get h2
 have hl:=r.length
 have hn:=U9
 have fin:EP X pins σ Q w s:=⟨z,H,I,rw',q⟩
 exact subscriptTail_builtinR (x:=w) pl.typeIs slot_tuple_getitem.lookup
  (getItem_tuple (j:=j) (Q:=fun r s'=>r=w/\EP X pins σ Q r s') pl (by omega) (by omega) (by rw[ZlW,<- hl];exact h1) (by simpa using ew) ⟨rfl,fin⟩) hs
theorem Zgq:IxR X ZhC:=by
 intro value slice pins s σ H x y v u Q I rx ry h hs
 obtain⟨z,i,c,rfl,rfl,hz,he,q⟩:=h
 obtain⟨t,rfl⟩:=rx
 obtain⟨t',rfl⟩:=ry
 obtain⟨j,h1,h2,h3,h4,h5⟩:=Qa he
 have hl:z.cps.toList.length=z.length:=by simp[Str.length]
 rw[hl] at h1 h4 h5
 have hn:=U9
 exact tail_any (typeIs_str s z t) slot_str_getitem.lookup (getItem_str (c:=c) (by
  have e1:decide (i < -(2^63:Int))=false:=decide_eq_false (by omega)
  have e2:decide (i ≥ 2^63)=false:=decide_eq_false (by omega)
  rw[e1,e2,Bool.or_false]) (by rw[h1];simpa using h2) ⟨.str ⟨#[c]⟩,H,I.tok _,⟨_,rfl⟩,q⟩) hs
noncomputable def rIx (K:W.Frag):R2:=fun x y H Q=>ZfD K x y H Q\/ZhB K x y H Q\/ZhC x y H Q
theorem Zgr:IxR X (rIx X.K):=ZeS.or (Zgp.or Zgq)
theorem Zbc (its:List Value) (n j:Nat) (u:Value):Obj.mapSeq (·.setIfInBounds j u) { cls:=.type "list",data:=.seq its.toArray n }={ cls:=.type "list",data:=.seq (its.set j u).toArray n }:=by
 simp[Obj.mapSeq]
theorem Inv.lst {pins:List (Addr×Obj)}{σ:St}{H:Hp}{s:Shared}{p:Addr}{xs:List V} (I:Inv X pins σ H s) (h:H p=some (.lst xs)) :
  ∃(its:List Value) (n:Nat),ZZ xs its/\s.heap.get? p=some { cls:=.type "list",data:=.seq its.toArray n }/\xs.length<=sizeLine:=by
 obtain⟨z,its,n,r,e⟩:=I.hok p _ h
 exact⟨its,n,r,e,z⟩
theorem Inv.lstUpd {pins:List (Addr×Obj)}{σ:St}{H:Hp}{s:Shared}{p:Addr}{xs ys:List V}{its its':List Value}{n n':Nat}{f:Obj->Obj} (I:Inv X pins σ H s) (h:H p=some (.lst xs))
  (ho:s.heap.get? p=some { cls:=.type "list",data:=.seq its.toArray n }) (hf:f { cls:=.type "list",data:=.seq its.toArray n }={ cls:=.type "list",data:=.seq its'.toArray n' }) (r:ZZ ys its') (hz:ys.length<=sizeLine) (t:Nat) :
  Inv X pins σ (upd H p (.lst ys)) { s with heap:=s.heap.update p f,toks:=t }:=by
 have e:(s.heap.update p f).get? p=some { cls:=.type "list",data:=.seq its'.toArray n' }:=by
  rw[Heap.get?_update_self f ho (by rw[hf]<;>rfl),hf]
 refine I.write (x:=p) (e:=p) (by rw[h];trivial) (.inl rfl) (fun b u hb q=>(Heap.get?_update_other _ _ (Ne.symm hb)).trans q) ⟨_,e⟩ ?_
 exact⟨hz,its',n',r,e⟩
def Ze3:V->V->V->Hp->(Hp->Prop)->Prop:=fun o i v H Q=>∃p xs k j,o=.ref p/\i=.int k/\H p=some (.lst xs)/\ixN xs.length k=some j/\Q (upd H p (.lst (xs.set j v)))
theorem Jz:Zhv X Ze3:=by
 intro pins s σ H o i v ov iv u Q I ro ri rv h
 obtain⟨p,xs,k,j,rfl,rfl,hp,hj,q⟩:=h
 cases ro
 obtain⟨t,rfl⟩:=ri
 obtain⟨its,n,r,ho,hz⟩:=I.lst hp
 obtain⟨h1,h2,h3,h4⟩:=Zcs hj
 have hl:=r.length
 have hn:=U9
 have I':Inv X pins σ (upd H p (.lst (xs.set j v))) { s with heap:=s.heap.update p (Obj.mapSeq (·.setIfInBounds j u)) }:=
  I.lstUpd hp ho (Zbc its n j u) (r.set rv j) (by rw[Zm4];exact hz) s.toks
 by_cases h0:0<=k
 ·have hk:k.toNat=j:=by
   rw[seqIndex_of h0 h4] at h1
   exact Option.some.inj h1
  exact PySem.W.ki_setAt ho h0 (by omega) (by rw[ZlW,<- hl];exact h4) (by rw[hk];exact⟨_,I',q⟩)
 ·have hk:(k+(its.toArray.size:Int)).toNat=j:=by
   rw[seqIndex_neg (by omega) h3] at h1
   rw[ZlW,<- hl]
   exact Option.some.inj h1
  exact PySem.W.ki_setBack ho (by omega) (by rw[ZlW,<- hl];exact h3) (by omega) (by rw[hk];exact⟨_,I',q⟩)
theorem Qp (lo hi:Option Int) (n:Nat):(sliceBounds lo hi none n).1=((HT.sIx n 0 lo:Nat):Int)/\(sliceBounds lo hi none n).2.1=((HT.sIx n n hi:Nat):Int)/\(sliceBounds lo hi none n).2.2=1:=by
 refine⟨?_, ?_,rfl⟩
 ·cases lo with
  |none=>simp[sliceBounds,HT.sIx]
  |some i =>
   simp only[sliceBounds,HT.sIx,Option.getD_none,show (1:Int)>0 by decide,if_true]
   by_cases h:i<0
   ·simp only[h,if_true]<;>omega
   ·simp only[h,if_false]<;>omega
 ·cases hi with
  |none=>simp[sliceBounds,HT.sIx]
  |some i =>
   simp only[sliceBounds,HT.sIx,Option.getD_none,show (1:Int)>0 by decide,if_true]
   by_cases h:i<0
   ·simp only[h,if_true]<;>omega
   ·simp only[h,if_false]<;>omega
theorem UK (its:List Value) (lo hi:Option Int):slicePick its.toArray lo hi none=((its.drop (HT.sIx its.length 0 lo)).take (HT.sIx its.length its.length hi-HT.sIx its.length 0 lo)).toArray:=by
 obtain⟨h1,h2,h3⟩:=Qp lo hi its.toArray.size
 unfold slicePick
 rw[h1,h2,h3]
 simp only[sliceRange_one,pick_run,ZlW]<;>rfl
def ZgZ (K:W.Frag):V->Option Int->Option Int->Hp->VK->Prop:=fun x lo hi H Q=>∃a xs,x=.ref a/\SqL K H a xs/\∀p,H p=none->Q (.ref p) (upd H p (.lst (Zfx xs lo hi)))
theorem Zex:SlR X (ZgZ X.K):=by
 intro pins s σ H x v vl vu lo hi sl Q I rx hs pl pu h
 obtain⟨a,xs,rfl,hx,q⟩:=h
 cases rx
 obtain⟨its,r,ht,hz⟩:=I.list hx
 have hlen:=r.length
 refine⟨"list",_,slot_list_getitem.lookup,ht.isList.typeIs, ?_⟩
 refine wpAny_getItem_list_slice ht.isList hs pl pu .none (by simp) ?_ (by rw[ZlW]<;>omega)
 rw[UK,<- hlen]
 refine⟨.ref s.heap.objs.size,_,I.laid (t':=s.toks) (o:=.lst (Zfx xs lo hi)) (fun b ob q=>Heap.get?_push_of_some _ q) (ZlY _) ?_,rfl,q _ (I.hok.fresh (ZlY _))⟩
 exact⟨Zml (Zaa xs lo hi) hz,_,0,(r.drop (HT.sIx xs.length 0 lo)).take (HT.sIx xs.length xs.length hi-HT.sIx xs.length 0 lo),Heap.get?_push_size _ rfl⟩
theorem QC:VP X (.builtin "len") (fun xs H Q=>∃p ys,xs=[.ref p]/\(SqL X.K H p ys\/SqT X.K H p ys)/\Q (.int ys.length) H):=by
 intro pins s σ H xs us Q I r h
 obtain⟨p,ys,rfl,hq,q⟩:=h
 obtain⟨u,rfl,rx⟩:=ZcR r
 cases rx
 have hn:=U9
 rcases hq with hq|hq
 ·obtain⟨its,r',pl,hz⟩:=I.list hq
  have hlen:=r'.length
  exact Calls.call_len_list pl.isList (by simp only[ZlW]<;>omega) ⟨.int ys.length,H,I.tok _,⟨s.toks+1,by rw[ZlW,hlen]⟩,q⟩
 ·obtain⟨its,r',pl,hz⟩:=I.tuple hq
  have hlen:=r'.length
  exact len_tuple pl (by simp only[ZlW]<;>omega) ⟨.int ys.length,H,I.tok _,⟨s.toks+1,by rw[ZlW,hlen]⟩,q⟩
theorem QB:VP X (.type "list") (fun xs H Q=>∃p ys,xs=[.ref p]/\(SqL X.K H p ys\/SqT X.K H p ys)/\∀l,H l=none->Q (.ref l) (upd H l (.lst ys))):=by
 intro pins s σ H xs us Q I r h
 obtain⟨p,ys,rfl,hq,q⟩:=h
 obtain⟨u,rfl,rx⟩:=ZcR r
 cases rx
 have fin:∀(its:List Value),ZZ ys its->ys.length<=sizeLine->∀(h':Heap) (c':Nat),(∀b o',s.heap.get? b=some o'->h'.get? b=some o') ->
   h'.get? s.heap.objs.size=some { cls:=.type "list",dict:=none,data:=.seq its.toArray c',slots:=#[] }->EP X pins σ Q (.ref s.heap.objs.size) { s with heap:=h' }:=fun its r' hz h' c' kp e =>
  ⟨.ref s.heap.objs.size,_,I.laid (t':=s.toks) kp (ZlY _) (show Vk X.prog X.w _ h' _ (.lst ys) from ⟨hz,its,c',r',e⟩),rfl,q _ (I.hok.fresh (ZlY _))⟩
 rcases hq with hq|hq
 ·obtain⟨its,r',pl,hz⟩:=I.list hq
  have hlen:=r'.length
  obtain⟨o,ho,hc,n,hd⟩:=pl.isList
  exact call_list_seq p (.inl rfl) ho hc hd (fun h' c' kp e=>fin its r' hz h' c' kp e) (by simp only[ZlW]<;>omega)
 ·obtain⟨its,r',pl,hz⟩:=I.tuple hq
  have hlen:=r'.length
  obtain⟨o,ho,hc,n,hd⟩:=pl
  exact call_list_seq p (.inr rfl) ho hc hd (fun h' c' kp e=>fin its r' hz h' c' kp e) (by simp only[ZlW]<;>omega)
def tyV (K:W.Frag) (T:String) (x:V) (H:Hp):Prop:=match x with
 |.str _=>T = "str"
 |.int _=>T = "int"
 |.ref p=>(T = "list"/\∃xs,SqL K H p xs)\/(T = "tuple"/\∃o,K.lookup p=some o/\o.cls=.type "tuple"/\o.dict=none) \/
   (T = "dict"/\((∃kvs,H p=some (.dK kvs))\/∃kvs,H p=some (.dT kvs)))\/(T = "set"/\∃S n,H p=some (.set S n))
 |_=>False
theorem ZdN {pins:List (Addr×Obj)}{σ:St}{H:Hp}{s:Shared}{T:String}{x:V}{v:Value} (I:Inv X pins σ H s) (r:Jq x v) (ty:tyV X.K T x H) :
  s.TypeIs v T/\∀a,v=.ref a->∃ob,s.heap.get? a=some ob/\ob.dict=none:=by
 cases x with
 |str z =>
  obtain⟨t,rfl⟩:=r
  cases (show T = "str" from ty)
  exact⟨typeIs_str s z t,fun _ e=>nomatch e⟩
 |int i =>
  obtain⟨t,rfl⟩:=r
  cases (show T = "int" from ty)
  exact⟨typeIs_int s i t,fun _ e=>nomatch e⟩
 |ref p =>
  cases r
  rcases ty with ⟨rfl,xs,hq⟩|⟨rfl,o,hk,hc,hd⟩|⟨rfl,hk⟩|⟨rfl,S,n,hk⟩
  ·obtain⟨its,_,pl,_⟩:=I.list hq
   refine⟨pl.isList.typeIs,fun a e=>?_⟩
   cases e
   obtain⟨o,n,e,c,hd,_⟩:=pl
   exact⟨o,e,hd⟩
  ·refine⟨⟨o,I.kIn p o hk,hc⟩,fun a e=>?_⟩
   cases e
   exact⟨o,I.kIn _ o hk,hd⟩
  ·have z:∃o,s.heap.get? p=some o/\o.ExactDict:=by
    rcases hk with ⟨kvs,hk⟩|⟨kvs,hk⟩
    ·obtain⟨_,_,_,_,o,_,_,e,ex,_⟩:=I.hok p _ hk
     exact⟨o,e,ex⟩
    ·obtain⟨_,_,_,_,o,_,_,e,ex,_⟩:=I.hok p _ hk
     exact⟨o,e,ex⟩
   obtain⟨o,e,ex⟩:=z
   refine⟨⟨o,e,ex.1⟩,fun a e2=>?_⟩
   cases e2
   exact⟨o,e,ex.2.1⟩
  ·obtain⟨o,_,_,_,e,ex,_⟩:=I.hok p _ hk
   refine⟨⟨o,e,ex.1⟩,fun a e2=>?_⟩
   cases e2
   exact⟨o,e,ex.2.1⟩
 |_=>exact False.elim ty
noncomputable def Zh5 (K:W.Frag) (T:String) (r:V->List V->Hp->VK->Prop) (to:TE):TE:=fun σ H Q=>to σ H fun x H1=>tyV K T x H1/\r x [] H1 Q
noncomputable def tBM (K:W.Frag) (T:String) (r:V->List V->Hp->VK->Prop) (to:TE) (t:TA):TE:=fun σ H Q=>to σ H fun x H1=>tyV K T x H1/\t σ H1 fun xs H2=>r x xs H2 Q
variable {o e:Expr}{es:List Expr}{to:TE}{t:TA}{name:Str}{apos cpos:Pos}{T id:String}{r:V->List V->Hp->VK->Prop}
theorem ZfI (pa:PlainAttrs T) (slot:Slot T name id) (hty:typeOf (.builtin id)=pure (.type "method_descriptor")) (hm:MtR X id r) (ho:PE X o to)
  (hbase:attributeBase o name X.env (eval o X.env)=eval o X.env:=by rfl) (hline:(apos.endLine==cpos.line)=true:=by rfl):PE X (.Call (.Attribute o name apos) [] [] cpos) (Zh5 X.K T r to):=by
 intro pins s σ H Q I h
 refine wpAny_Call_method0_late hbase hline (thn (ho pins s σ H _ I h) fun v s1 ⟨x,H1,I1,r1,ty,q1⟩=>?_)
 obtain⟨h1,h2⟩:=ZdN I1 r1 ty
 exact⟨T,id,pa,slot,hty,h1,h2,Calls.callWith_builtin rfl (PySem.evalArgs_none (hm pins s1 σ H1 x [] v [] Q I1 r1 .nil q1))⟩
theorem Ze9 (pa:PlainAttrs T) (slot:Slot T name id) (hty:typeOf (.builtin id)=pure (.type "method_descriptor")) (hm:MtR X id r) (ho:PE X o to) (ha:PA X (e::es) t)
  (hbase:attributeBase o name X.env (eval o X.env)=eval o X.env:=by rfl)
  (hfew:((backTo cpos (starEach (e::es) X.env)).all (fun x=>!x.1)&&(backToKw cpos (keywordEach [] X.env)).all (fun x=>x.1.isSome)
   && decide ((e::es).length+([]:List Keyword).length+(if ([]:List Keyword).isEmpty then 0 else 1)<30))=true:=by rfl)
  (hline:(apos.endLine==cpos.line)=true:=by rfl) (hs:starEach (e::es) X.env=(false,eval e X.env)::starEach es X.env:=by rfl) (hplain:(backTo cpos (starEach es X.env)).any (·.1)=false:=by rfl) :
  PE X (.Call (.Attribute o name apos) (e::es) [] cpos) (tBM X.K T r to t):=by
 intro pins s σ H Q I h
 refine wpAny_Call_method_late hbase hfew hline rfl (thn (ho pins s σ H _ I h) fun v s1 ⟨x,H1,I1,r1,ty,q1⟩=>?_)
 obtain⟨h1,h2⟩:=ZdN I1 r1 ty
 refine⟨T,id,pa,slot,hty,h1,h2, ?_⟩
 have hA:=ha cpos pins s1 σ H1 _ I1 q1
 rw[hs] at hA ⊢
 refine Calls.callWith_builtin (by show (false || (backTo cpos (starEach es X.env)).any (·.1))=false;rw[hplain]<;>rfl) (Calls.evalArgs_plain ?_)
 exact thn hA fun us s2 ⟨vs,H2,I2,r2,q2⟩=>hm pins s2 σ H2 x vs v us Q I2 r1 r2 q2
end
def MtM (X:Cx) (id:String) (r:V->List V->Hp->VK->Prop):Prop:=
 ∀(pins:List (Addr×Obj)) (s:Shared) (σ:St) (H:Hp) (x:V) (xs:List V) (v:Value) (us:List Value) (Q:VK),Inv X pins σ H s->Jq x v->ZZ xs us->r x xs H Q ->
  wpAny (model X.prog X.w) X.A (call (.builtin id) (v::us)) (EP X pins σ Q) X.xe s
theorem ZZ.one:∀{x:V}{us:List Value},ZZ [x] us->∃u,us=[u]/\Jq x u
 |_,_,.cons r .nil=>⟨_,rfl,r⟩
theorem ZZ.zero:∀{us:List Value},ZZ [] us->us=[]
 |_,.nil=>rfl
theorem ZZ.dropLast {xs:List V}{us:List Value} (h:ZZ xs us):ZZ xs.dropLast us.dropLast:=by
 induction h with
 |nil=>exact .nil
 |cons r t ih =>
  cases t with
  |nil=>exact .nil
  |cons q t'=>exact .cons r ih
theorem ZZ.rep {xs:List V}{us:List Value} (h:ZZ xs us):∀k:Nat,ZZ (List.replicate k xs).flatten (List.replicate k us).flatten
 |0=>.nil
 |k+1=>by
  rw[Zmq,Zmq,ZmH,ZmH]
  exact ZZ.append h (ZZ.rep h k)
theorem Zbh {α:Type} (l:List α):l.eraseIdx (l.length-1)=l.dropLast:=by
 induction l with
 |nil=>rfl
 |cons a r ih =>
  cases r with
  |nil=>rfl
  |cons b r =>
   have e:(a::b::r).length-1=((b::r).length-1)+1:=by
    have h1:(a::b::r).length=r.length+2:=rfl
    have h2:(b::r).length=r.length+1:=rfl
    omega
   rw[e,List.eraseIdx_cons_succ,ih]
   all_goals rfl
theorem Q3 (its:List Value):∀(k:Nat) (acc:List Value),
  List.foldl (fun x1 x2=>x1++x2) acc.toArray (List.replicate k its.toArray)=(acc++(List.replicate k its).flatten).toArray
 |0,acc=>by simp
 |k+1,acc=>by
  have e:acc.toArray++its.toArray=(acc++its).toArray:=by simp
  have e2:(acc++its)++(List.replicate k its).flatten=acc++(List.replicate (k+1) its).flatten:=by
   rw[Zmq,ZmH,Zno]
  rw[<- e2,<- Q3 its k (acc++its),<- e,Zmq,List.foldl_cons]
section
variable {X:Cx}{pins:List (Addr×Obj)}{σ:St}{H:Hp}{s:Shared}{l:Addr}{xs ys:List V}
theorem Inv.lset {its its':List Value}{n:Nat}{f:Array Value->Array Value}{t':Nat} (I:Inv X pins σ H s) (hH:H l=some (.lst xs))
  (e:s.heap.get? l=some { cls:=.type "list",data:=.seq its.toArray n }) (hf:f its.toArray=its'.toArray) (hv:ZZ ys its') (hz:ys.length<=sizeLine) :
  Inv X pins σ (upd H l (.lst ys)) { s with heap:=s.heap.update l (Obj.mapSeq f),toks:=t' }:=by
 have q:=PySem.IsL.update e f
 rw[hf] at q
 refine I.write (x:=l) (e:=l) (by rw[hH];exact trivial) (.inl rfl) (fun b' u hb hu=>(Heap.get?_update_other s.heap (Obj.mapSeq f) (Ne.symm hb)).trans hu) ⟨_,q⟩ ?_
 exact⟨hz,its',_,hv,q⟩
theorem Inv.lnew {its:List Value}{t':Nat} (I:Inv X pins σ H s) (hv:ZZ ys its) (hz:ys.length<=sizeLine) :
  Inv X pins σ (upd H s.heap.objs.size (.lst ys)) { s with heap:=s.heap.push { cls:=.type "list",data:=.seq its.toArray },toks:=t' }:=
 I.laid (fun _ _ q=>Heap.get?_push_of_some _ q) (ZlY _) ⟨hz,its,0,hv,Heap.get?_push_size _ rfl⟩
theorem Inv.fresh (I:Inv X pins σ H s):H s.heap.objs.size=none:=I.hok.fresh (ZlY _)
theorem Inv.lstM (I:Inv X pins σ H s) (hH:H l=some (.lst xs)):xs.length<=sizeLine/\∃(its:List Value) (n:Nat),ZZ xs its/\xs.length=its.length/\s.heap.get? l=some { cls:=.type "list",data:=.seq its.toArray n }:=by
 obtain⟨z,its,n,r,e⟩:=I.hok l _ hH
 exact⟨z,its,n,r,r.length,e⟩
theorem Zdr {n:Nat} (h:n<=sizeLine):Builtin.List.listTooLong n=false:=by
 unfold Builtin.List.listTooLong
 exact decide_eq_false (by omega)
end
section
variable {X:Cx}
def QN:V->List V->Hp->VK->Prop:=fun x vs H Q=>∃l xs y,x=.ref l/\vs=[y]/\H l=some (.lst xs)/\xs.length<sizeLine/\Q .non (upd H l (.lst (xs++[y])))
theorem Ul:MtM X "list.append" QN:=by
 intro pins s σ H x vs v us Q I rx rv h
 obtain⟨l,xs,y,rfl,rfl,hH,hz,q⟩:=h
 cases rx
 obtain⟨u,rfl,ru⟩:=rv.one
 obtain⟨z,its,n,r,hl,e⟩:=I.lstM hH
 refine call_meets F.slot_list_append ⟨_,e,rfl⟩ F.entry_list_append (F.args_list_append_2 _ _) (PySem.list_append l its.toArray n u (by rw[ZlW];omega)) ⟨e, ?_⟩
 refine⟨.non,_,I.lset (its':=its++[u]) hH e (by simp) (r.append (.cons ru .nil)) ?_,rfl,q⟩
 rw[Zmx,List.length_singleton]
 omega
def ZhA:V->List V->Hp->VK->Prop:=fun x vs H Q=>∃l xs y,x=.ref l/\vs=[]/\H l=some (.lst xs)/\xs[xs.length-1]?=some y/\Q y (upd H l (.lst xs.dropLast))
theorem Zga:MtM X "list.pop" ZhA:=by
 intro pins s σ H x vs v us Q I rx rv h
 obtain⟨l,xs,y,rfl,rfl,hH,hy,q⟩:=h
 cases rx
 have hus:=rv.zero
 subst hus
 obtain⟨z,its,n,r,hl,e⟩:=I.lstM hH
 obtain⟨u,hu,ru⟩:=r.get hy
 have hy':its.toArray[its.toArray.size-1]?=some u:=by
  show its.toArray[its.length-1]?=some u
  rw[<- Array.getElem?_toList,<- hl]
  exact hu
 refine call_meets F.slot_list_pop ⟨_,e,rfl⟩ F.entry_list_pop (F.args_list_pop_1 _) (MeetsSeq.list_pop_last l its.toArray n u hy' (by rw[ZlW];omega)) ⟨e, ?_⟩
 refine⟨y,_,I.lset (its':=its.dropLast) hH e ?_ r.dropLast ?_,ru,q⟩
 ·show its.toArray.eraseIdxIfInBounds (its.toArray.size-1)=its.dropLast.toArray
  rw[ZlW,List.eraseIdxIfInBounds_toArray,Zbh]
 ·rw[List.length_dropLast]
  omega
noncomputable def Zh9:R2:=fun x y H Q=>∃l k xs,x=.ref l/\y=.int k/\H l=some (.lst xs)/\-(2^63)<=k/\k<2^63/\xs.length*k.toNat<=sizeLine /\
 ∀p,H p=none->Q (.ref p) (upd H p (.lst (List.replicate k.toNat xs).flatten))
theorem Zcp {α:Type} (xs:List α) (k:Nat):(List.replicate k xs).flatten.length=k*xs.length:=by
 induction k with
 |zero=>simp
 |succ k ih=>rw[Zmq,ZmH,Zmx,ih,Nat.succ_mul,Nat.add_comm]
theorem Za4:OpR X (binaryOp .Mult) Zh9:=by
 intro pins s σ H x y v u Q I rx ry h
 obtain⟨l,k,xs,rfl,rfl,hH,h1,h2,hz,q⟩:=h
 cases rx
 obtain⟨t,rfl⟩:=ry
 obtain⟨z,its,n,r,hl,e⟩:=I.lstM hH
 have hlen:its.toArray.size*k.toNat<=sizeLine:=by rw[ZlW,<- hl];exact hz
 have hcap:¬its.toArray.size*k.toNat>(2^63-1)/8:=by
  have:(sizeLine:Nat)<=(2^63-1)/8:=by decide
  omega
 have hfit:¬(!Builtin.List.listFitsIndex k)=true:=by
  rw[fitsIndex_both h1 h2]
  exact Bool.false_ne_true
 have hlong:¬Builtin.List.listTooLong (its.toArray.size*k.toNat)=true:=by
  rw[Zdr hlen]
  exact Bool.false_ne_true
 have hnew:List.foldl (fun x1 x2=>x1++x2) #[] (List.replicate (if its.toArray.isEmpty=true then 0 else k.toNat) its.toArray)=(List.replicate k.toNat its).flatten.toArray:=by
  have f0:∀m:Nat,List.foldl (fun x1 x2=>x1++x2) #[] (List.replicate m its.toArray)=(List.replicate m its).flatten.toArray:=fun m=>by
   have:=Q3 its m []
   rw[Znu] at this
   exact this
  rw[f0]
  cases its with
  |nil=>simp
  |cons a r'=>rw[if_neg (by simp)]
 refine wpAny_binaryOp_repeat_ref (T := "list") (U := "int") (by decide) ⟨_,e,rfl⟩ (fun s'=>typeIs_int s' k t) noFill_list_mul F.fills_int_mul F.slot_int_rmul repeat_list F.slot_int_index.lookup
  (call_meets F.slot_int_rmul (typeIs_int s k t) F.entry_int_rmul (F.args_int_rmul_2 _ _) (int___rmul___int_list k t l its.toArray n)
   ⟨e,rfl,⟨_,e,rfl⟩,call_meets F.slot_list_mul ⟨_,e,rfl⟩ F.entry_list_mul (F.args_list_mul_2 _ _) (AutoListH.list___mul___list_int_3 l its.toArray n k t hfit hcap hlong) ⟨e, ?_⟩⟩)
 rw[hnew]
 exact⟨.ref _,_,I.lnew (t':=s.toks) (r.rep k.toNat) (by rw[Zcp,Nat.mul_comm];exact hz),rfl,q _ I.fresh⟩
end
section
set_option maxRecDepth 100000 in
end
section
end
end L2
namespace Att
open PySem PySem.W PySem.Calls PyProof.Rows
theorem Up {P:Params}{h:Heap}:∀(ns:List Int) (vs:List Value),WellAll P h vs (ns.map WData.int)->IntsAre vs ns:=by
 intro ns
 induction ns with
 |nil =>
  intro vs w
  rw[Zmn] at w
  cases w
  exact .nil
 |cons n ns ih =>
  intro vs w
  rw[Zmd] at w
  cases w with
  |cons a b =>
   cases a
   exact .cons _ _ (ih _ b)
theorem Zb6 {l:OpenLaw}{n:Nat} (hn:l.most=some n) {P:Params}{h:Heap}{args:List WData}{vals:List Value}
  (hpre:l.row.toRowW.claim.pre args=true) (hwl:WellAll P h vals args) :
  ∃a vs ns,vals=[Value.ref a]/\args=[WData.list (ns.map WData.int)]/\h.get? a=some { cls:=.type "list",data:=.seq vs.toArray }/\IntsAre vs ns/\ns.length<=n:=by
 have hsh:WShape.hasAll [] args [.list .int]=true:=(pre_splitW hpre).1
 have hc:l.pre.holds [] { args:=args }=true:=(pre_splitW hpre).2
 obtain⟨d,r,rfl,h1,h2⟩:=hasAllW_cons hsh
 obtain rfl:=hasAllW_nil h2
 obtain⟨xs,rfl,h3⟩:=hasW_list h1
 obtain⟨ns,rfl⟩:=items_int h3
 have hlen:ns.length<=n:=by
  unfold OpenLaw.pre at hc
  have h4:(WTm.not (.lt (.lit (.int (n:Int))) (.len (.arg 0)))).holds [] { args:=[.list (ns.map .int)] }=true:=by
   have h4:=(holds_andW hc).1
   rw[hn] at h4
   exact h4
  have h5:=condW_of h4 (w_not (w_lt w_lit (w_len_list (w_arg rfl))))
  rw[Zmh] at h5
  refine Nat.le_of_not_lt fun q=>?_
  have q':(n:Int)<((ns.length:Nat):Int):=by omega
  first
   |(rw[decide_eq_true q'] at h5;exact absurd h5 (by decide))
   |(simp at h5;omega)
 cases hwl with
 |cons w1 w2 =>
  cases w2
  cases w1 with
  |list ho hall=>exact⟨_,_,ns,rfl,rfl,ho,Up ns _ hall,hlen⟩
theorem ZbJ (l:OpenLaw) (args:List WData):l.row.toRowW.claim.post args (.bool true) args=true:=
 postW_of (r:=l.row.toRowW) (X:=(true==true))
  (show WShape.has [] (.bool true) .bool=true by first|rfl|decide|simp[WShape.has,WShape.arms,WShape.armsAll])
  (show (WTm.eq .res (.lit (.bool true))).value [] { args:=args,res:=some (.bool true),after:=args }=some (.bool (true==true)) from w_eq_bool (w_res rfl) w_lit) rfl
theorem Zae {l:OpenLaw}{n:Nat}{q:Program}{loose:List Str}{XP:(Str->Option Value)->Heap->Prop}{YP:World->Heap->Prop}{d:DefRec}
  (hn:l.most=some n) (hdf:d.params.defaults=[])
  (call:∀(w:World) (s₀ s₁:Shared) (mg mb:Str->Option Value) (fa:Addr) (o:Obj) (pm cd doc:Value) (a:Addr) (vs:List Value) (ns:List Int),
   Ground q loose [] XP w s₀ mg mb s₁.heap->YP w s₁.heap ->
   s₁.heap.get? fa=some o->o.data=.func (docDef d.name d.params d.body d.scope pm cd doc)->s₁.heap.CodeRec cd d.name->mg d.name=some (.ref fa) ->
   s₁.heap.get? a=some { cls:=.type "list",data:=.seq vs.toArray }->IntsAre vs ns->ns.length<=n->s₁.gens=#[] ->
   codeAny (model l.prog w) callerA (.call (.ref fa) ⟨[.ref a],[]⟩) (fun r s'=>r=.ok (.ret (.bool true))/\OldK s₁.heap s'.heap/\s'.os=s₁.os/\AllBare s'.gens) s₁) :
  WalkO q loose XP YP l.row.toRowW d [] (fun f vs=>PySem.call f vs):=by
 intro w s₀ s₁ mg mb G Y fa o pm cd doc dV kV ho hd hcd hD hmg hg args vals as hpre hlay hrd hwl hlo
 obtain rfl:dV=.none:=Dflts.none hD hdf
 obtain rfl:kV=.none:=Dflts.noKw hD
 obtain⟨a,vs,ns,rfl,rfl,hobj,hints,hlen⟩:=Zb6 hn hpre hwl
 refine enter_call (codeAny_mono (call w s₀ s₁ mg mb fa o pm cd doc a vs ns G Y ho (fd_plain hd) hcd hmg hobj hints hlen hg) fun r s' hq=>?_)
 obtain⟨rfl,h2,h3,h4⟩:=hq
 exact⟨.inl ⟨.bool true,.bool true,[],rfl,fun _=>rfl,.bool true,ZbJ l _,fun _=>⟨List.Pairwise.nil,fun _ hm=>(nomatch hm)⟩⟩,h2,h3,h4⟩
section
end
end Att
namespace L2
open PySem PySem.Spec PyProof.Rows
theorem Qf:∀{vs:List Value}{ns:List Int},IntsAre vs ns->ZZ (ns.map V.int) vs
 |_,_,.nil=>.nil
 |_,_,.cons n t h=>.cons ⟨t,rfl⟩ (Qf h)
def ZgC (H:Hp):Prop:=∀b,H b=none\/∃o xs,H b=some (.frz o (.lst xs))
theorem Zdz {P:Program}{w:World}{K:W.Frag}{mg mb:Str->Option Value}{CX:CXT}{k:Nat}{fa a:Addr}{fd:FuncData}{x:Str}{sp:Sp}{s₁:Shared}{vs:List Value}{ns:List Int}
  (KX:K.In s₁.heap) (hns:s₁.heap.Ns mainGlobals mg) (hb:s₁.heap.Ns builtinsNs mb) (hbb:∀x:Str,x ≠ "__name__"->mb x=bootBuiltins x) (hlim:s₁.heap.NoLimit) (hg:s₁.gens=#[])
  (ha:s₁.heap.get? a=some { cls:=.type "list",data:=.seq vs.toArray }) (hi:IntsAre vs ns) (hl:ns.length<=sizeLine) (hr:U0 k callerA)
  (F:∀base:Heap,K.In base->base.Ns mainGlobals mg->Va P w K mg base CX k fa fd [x] sp) (hbind:∀(s:Shared) (u:Value),BindsTo s fd ⟨[u],[]⟩ [(x,u)])
  (hsp:∀H:Hp,ZgC H->SqL K H a (ns.map V.int)->sp [.ref a] H (fun v _=>v=.bl true) fun _ _ _=>False)
  (hCX:∀H e s',CX [] H s₁ (fun _ _ _=>False) e s'->False) :
  codeAny (model P w) callerA (.call (.ref fa) ⟨[.ref a],[]⟩) (fun r s'=>r=.ok (.ret (.bool true))/\OldK s₁.heap s'.heap/\s'.os=s₁.os/\AllBare s'.gens) s₁:=by
 have rv:=Qf hi
 have lenV:=hi.length
 have core:∀H:Hp,ZgC H->SqL K H a (ns.map V.int)->HOk P w H s₁.heap->(∀b,H b≠none->b=a)->(H a≠none->K.lookup a=none) ->
   codeAny (model P w) callerA (.call (.ref fa) ⟨[.ref a],[]⟩) (fun r s'=>r=.ok (.ret (.bool true))/\OldK s₁.heap s'.heap/\s'.os=s₁.os/\AllBare s'.gens) s₁:=by
  intro H hO hS hok hA hK
  have base_of:∀{b:Addr}{o:Obj},s₁.heap.get? b=some o->H b=none->(Zd9 s₁.heap H).get? b=some o:=fun e n=>Zd8 e n
  have noA:∀{b:Addr}{o:Obj}{es:Array DictEntry}{ep:Nat},s₁.heap.get? b=some o->o.data=.dict es ep->H b=none:=fun {b o es ep} e d=>by
   cases q:H b with
   |none=>rfl
   |some u =>
    have e':b=a:=hA b (by rw[q];simp)
    subst e'
    rw[ha] at e;cases e
    have d':Data.seq vs.toArray _=Data.dict es ep:=d
    cases d'
  have nsK:∀{b:Addr}{m:Str->Option Value},s₁.heap.Ns b m->(Zd9 s₁.heap H).Ns b m:=fun {b m} ⟨o,es,ep,e,d,r⟩=>⟨o,es,ep,base_of e (noA e d),d,r⟩
  have hKb:K.In (Zd9 s₁.heap H):=fun b o e=>base_of (KX b o e) (by
   cases q:H b with
   |none=>rfl
   |some u =>
    have e':b=a:=hA b (by rw[q];simp)
    subst e'
    rw[hK (by rw[q];simp)] at e;cases e)
  have hM:Mod K mg (Zd9 s₁.heap H):=⟨hKb,nsK hns,⟨mb,nsK hb,hbb⟩,let ⟨mc,h1,h2⟩:=hlim;⟨mc,nsK h1,h2⟩⟩
  have e0:ZgP P w K mg (Zd9 s₁.heap H) callerA [] s₁ H:=⟨rfl,hM,fun b o e=>ZeP e,Nat.le_of_eq (Zcy _ _),trivial,fun b hb=>absurd (show b∈([]:List Addr) from hb) (by simp),hok,.of_eq hg⟩
  refine codeAny_mono ((F _ hKb (nsK hns)).run callerA [] s₁ H ⟨[.ref a],[]⟩ [.ref a] [.ref a] _ _ hr e0 (hbind s₁ (.ref a)) (.cons rfl .nil) (hsp H hO hS)) fun r s' h=>?_
  cases r with
  |error e=>exact(hCX H e s' h).elim
  |ok fl =>
   cases fl with
   |next=>exact False.elim h
   |brk=>exact False.elim h
   |cont=>exact False.elim h
   |ret u =>
    obtain⟨v,H',os,bare,un,hok',r',q⟩:=h
    have q':v=.bl true:=q
    subst q'
    obtain rfl:u=Value.bool true:=r'
    refine⟨rfl,OldK.of_keep fun b o e=>?_,os,bare⟩
    cases q:H b with
    |none=>exact un.keep b o e q (by intro z;exact absurd (show b∈([]:List Addr) from z) (by simp)) (by simp)
    |some u =>
     rcases hO b with z|⟨ob,xs,z⟩
     ·rw[q] at z;cases z
     ·have z2:=un.frzs b ob _ z
      obtain⟨e1,_⟩:=hok b _ z
      obtain⟨e2,_⟩:=hok' b _ z2
      rw[e] at e1;cases e1
      exact e2
 cases hk:K.lookup a with
 |some o =>
  have e:=KX a o hk
  rw[ha] at e
  cases e
  refine core (fun _=>none) (fun _=>.inl rfl) (.inr ⟨_,vs.toArray,_,hk,rfl,rfl,rfl,by rw[ZlW,lenV];exact hl,by simpa using rv⟩) (fun b u z=>by have z':(none:Option HO)=some u:=z;cases z') (fun b z=>absurd rfl z) fun z=>absurd rfl z
 |none =>
  refine core (fun b=>if b=a then some (.frz { cls:=.type "list",data:=.seq vs.toArray } (.lst (ns.map V.int))) else none) (fun b=>?_) (.inl (.inr ⟨{ cls:=.type "list",data:=.seq vs.toArray },if_pos rfl⟩)) (fun b u z=>?_) (fun b z=>?_) fun _=>hk
  ·by_cases hb:b=a
   ·exact .inr ⟨_,_,if_pos hb⟩
   ·exact .inl (if_neg hb)
  ·by_cases hb:b=a
   ·have z':=(if_pos hb).symm.trans z
    cases z'
    subst hb
    exact⟨ha,by rw[Zmh];exact hl,vs,_,rv,ha⟩
   ·have z':=(if_neg hb).symm.trans z
    cases z'
  ·by_cases hb:b=a
   ·exact hb
   ·exact absurd (if_neg hb) z
noncomputable abbrev KOf {K:W.Frag}{h:Heap} (_:K.In h):W.Frag:=K
theorem Zeq {l:PySem.W.OpenLaw}{n k:Nat}{q:Program}{loose:List Str}{XP:(Str->Option Value)->Heap->Prop}{YP:World->Heap->Prop}{d:DefRec}{K:Params->W.Frag}{CX:World->CXT}{sp:World->Sp}{x:Str}
  (hn:l.most=some n) (hn2:n<=sizeLine) (hdf:d.params.defaults=[]) (hr:U0 k callerA)
  (hY:∀(w:World) (h:Heap),YP w h->(K w.params).In h)
  (F:∀(w:World) (mg:Str->Option Value) (fa:Addr) (h:Heap),(K w.params).In h->h.Ns mainGlobals mg->mg d.name=some (.ref fa) ->
   ∃fd:FuncData,(∀(s:Shared) (u:Value),BindsTo s fd ⟨[u],[]⟩ [(x,u)]) /\
    ∀base:Heap,(K w.params).In base->base.Ns mainGlobals mg->Va l.prog w (K w.params) mg base (CX w) k fa fd [x] (sp w))
  (hsp:∀(w:World) (H:Hp) (a:Addr) (ns:List Int),ns.length<=n->ZgC H->SqL (K w.params) H a (ns.map V.int)->sp w [.ref a] H (fun v _=>v=.bl true) fun _ _ _=>False)
  (hCX:∀(w:World) (H:Hp) (s:Shared) (e:Value) (s':Shared),CX w [] H s (fun _ _ _=>False) e s'->False) :
  PySem.W.WalkO q loose XP YP l.row.toRowW d [] (fun f vs=>PySem.call f vs):=by
 refine Att.Zae hn hdf fun w s₀ s₁ mg mb fa o pm cd doc a vs ns G Y ho hd hcd hmg hobj hints hlen hg=>?_
 have KX:=hY w _ Y
 obtain⟨fd,hb,hF⟩:=F w mg fa _ KX G.T.g hmg
 exact Zdz KX G.T.g G.T.b G.T.builtins G.T.nolimit hg hobj hints (Zml hlen hn2) hr hF hb (fun H hO hS=>hsp w H a ns hlen hO hS) fun H e s'=>hCX w H s₁ e s'
theorem ZcQ {l:PySem.W.OpenLaw}{n k:Nat}{q:Program}{loose:List Str}{XP:(Str->Option Value)->Heap->Prop}{YP:World->Heap->Prop}{d:DefRec}{K:Params->W.Frag}{CX:CXT}{sp:W.Frag->Sp}{x:Str}
  (hn:l.most=some n) (hn2:n<=sizeLine) (hdf:d.params.defaults=[]) (hr:U0 k callerA)
  (hY:∀(w:World) (h:Heap),YP w h->(K w.params).In h)
  (F:∀(w:World) (mg:Str->Option Value) (fa:Addr) (h:Heap),(K w.params).In h->h.Ns mainGlobals mg->mg d.name=some (.ref fa) ->
   ∃fd:FuncData,(∀(s:Shared) (u:Value),BindsTo s fd ⟨[u],[]⟩ [(x,u)]) /\
    ∀base:Heap,(K w.params).In base->base.Ns mainGlobals mg->Va l.prog w (K w.params) mg base CX k fa fd [x] (sp (K w.params)))
  (hsp:∀(K:PySem.W.Frag) (H:Hp) (a:Addr) (ns:List Int),ns.length<=n->ZgC H->SqL K H a (ns.map V.int)->sp K [.ref a] H (fun v _=>v=.bl true) fun _ _ _=>False)
  (hCX:∀(H:Hp) (s:Shared) (e:Value) (s':Shared),CX [] H s (fun _ _ _=>False) e s'->False) :
  PySem.W.WalkO q loose XP YP l.row.toRowW d [] (fun f vs=>PySem.call f vs):=
 Zeq (K:=K) (CX:=fun _=>CX) (sp:=fun w=>sp (K w.params)) hn hn2 hdf hr hY F (fun w H a ns h1 h2 h3=>hsp (K w.params) H a ns h1 h2 h3) fun _ H s e s'=>hCX H s e s'
noncomputable def ZE (s:Stmt):Arguments:=match s with
 |.FunctionDef _ a _ _ _ _ _ _ _ _=>a
 |_=>{ posonlyargs:=[],args:=[],vararg:=none,kwonlyargs:=[],kw_defaults:=[],kwarg:=none,defaults:=[] }
noncomputable def Z7 (s:Stmt):List Stmt:=match s with
 |.FunctionDef _ _ b _ _ _ _ _ _ _=>b
 |_=>[]
noncomputable def Zi (s:Stmt):Scope:=match s with
 |.FunctionDef _ _ _ _ _ _ sc _ _ _=>sc
 |_=>{ kind:=.function,names:=[],isGenerator:=false,isCoroutine:=false }
noncomputable abbrev CX0:CXT:=fun _ _ _ _ _ _=>False
noncomputable abbrev E0:XK:=fun _ _ _=>False
theorem Zhd {X:Cx}:ZcM CX0 X E0:=fun _ _ _ _ _ _ _ h=>h.elim
structure Fun (K:PySem.W.Frag) (x qual:Str) (st:Stmt) (f:Addr) (fd:FuncData):Prop where
 ex:∃(oc:Value) (od:Option Addr) (kV doc pm:Value) (an:Option Addr) (cdv ct:Value) (osl:Array (Option Value)),
  fd=PySem.W.fnOf x qual (ZE st) (Z7 st) (Zi st) .none kV doc pm an cdv ct/\K.lookup f=some ⟨oc,od,.func fd,osl⟩/\PySem.W.codeIn K cdv qual=true
 kp:PySem.W.keepIn K (.ref f)=true
section
variable {P:Program}{w:World}{K:W.Frag}{mg:Str->Option Value}{base:Heap}
theorem Fun.ok {x qual:Str}{st:Stmt}{f:Addr}{fd:FuncData}{N ps:List Str}{k:Nat}{sp:Sp} (F:Fun K x qual st f fd) (S:ZF N ps (Zi st)) (len:∀vs H Q E,sp vs H Q E->vs.length=ps.length)
  (hbody:∀(cdv:Value) (A:Around) (outer:List Env) (s:Shared) (H:Hp) (vs:List V) (Q:VK) (E:XK),U0 k (A.deeper (envOfC qual (Zi st) s.heap.objs.size f cdv))->sp vs H Q E ->
   ∃t,PSs (QK CX0 P w K mg base N qual (Zi st) f cdv A outer s H E).nox (Z7 st) t/\t { nx:=fun _ H'=>Q .non H',rt:=Q } (VL N vs) H):Va P w K mg base CX0 (k+1) f fd ps sp:=by
 obtain⟨oc,od,kV,doc,pm,an,cdv,ct,osl,rfl,lk,hcd⟩:=F.ex
 refine Zgx lk hcd S len fun A outer s H vs Q E hr hsp=>?_
 obtain⟨t,h,q⟩:=hbody cdv A outer s H vs Q E hr hsp
 exact⟨t,h.nox,q⟩
theorem Fun.binds {x qual:Str}{st:Stmt}{f:Addr}{fd:FuncData}{ps:List Str} (F:Fun K x qual st f fd)
  (h:∀(kV doc pm:Value) (an:Option Addr) (cdv ct:Value) (us:List Value),us.length=ps.length->bindArgs (PySem.W.fnOf x qual (ZE st) (Z7 st) (Zi st) .none kV doc pm an cdv ct) ⟨us,[]⟩=pure (ps.zip us)):Zaj K fd ps []:=by
 obtain⟨oc,od,kV,doc,pm,an,cdv,ct,osl,rfl,lk,hcd⟩:=F.ex
 exact .all (h kV doc pm an cdv ct)
theorem Jh {x qual:Str}{st:Stmt}{f:Addr}{oc:Value}{od an:Option Addr}{osl:Array (Option Value)}{kV doc pm cdv ct:Value} (l:K.lookup f=some ⟨oc,od,.func (PySem.W.fnOf x qual (ZE st) (Z7 st) (Zi st) .none kV doc pm an cdv ct),osl⟩)
  (c:PySem.W.codeIn K cdv qual=true) (k:PySem.W.keepIn K (.ref f)=true):Fun K x qual st f (PySem.W.fnOf x qual (ZE st) (Z7 st) (Zi st) .none kV doc pm an cdv ct):=⟨⟨oc,od,kV,doc,pm,an,cdv,ct,osl,rfl,l,c⟩,k⟩
variable {X:Cx}
theorem pv (i:Nat) {x:Str}{pos:Pos} (hN:X.N[i]?=some x:=by rfl) (hv:Vis X.env.scope x:=by first|exact Or.inl rfl|exact Or.inr (Or.inl rfl)|exact Or.inr (Or.inr rfl)) (hd:(x==("__debug__":Str))=false:=by decide)
  (hcd:(x==("__classdict__":Str))=false:=by decide):PE X (.Name x pos) (Zbl i):=ZfH hN hv hd hcd
end
def Z6 (H H':Hp):Prop:=∀b o,H b=some o->H' b=some o
theorem Z6.refl (H:Hp):Z6 H H:=fun _ _ h=>h
theorem Z6.trans {H H1 H2:Hp} (a:Z6 H H1) (b:Z6 H1 H2):Z6 H H2:=fun c o h=>b c o (a c o h)
theorem Z6.free {H H':Hp} (e:Z6 H H') {l:Addr} (h:H' l=Option.none):H l=Option.none:=by
 cases q:H l with
 |none=>rfl
 |some o =>
  rw[e l o q] at h
  cases h
end L2
set_option maxHeartbeats 4000000
namespace L2
open PySem PySem.Spec PyProof.Rows
noncomputable def QA (scope:Scope) (env:Env):List (Str×Addr):=
 ((scope.names.filter fun p=>p.2==.free).reverse).map fun p=>(p.1,(env.cells.lookup p.1).getD 0)
theorem Vs {β:Type}:∀{l:List (Str×β)}{a:Str}{b:β},(a,b)∈l->∃c,l.lookup a=some c
 |[],_,_,h=>absurd h (by simp)
 |(n,v)::r,a,b,h=>by
  cases e:a==n with
  |true=>exact⟨v,by simp[Zmv,e]⟩
  |false =>
   rcases Zmf.mp h with z|z
   ·cases z;simp at e
   ·obtain⟨c,hc⟩:=Vs z
    exact⟨c,by simp[Zmv,e,hc]⟩
theorem Zy {env:Env}:∀{names:List (Str×NameKind)}{y:Str}{k:NameKind},(∀p∈names,p.2≠.cell) ->
  (names.map fun(n,k)=>if (k==NameKind.free&&env.scope.kind==.function&&env.kindOf n==some .cell) then (n,NameKind.cell) else (n,k)).lookup y=some k ->
  (k=.local->names.lookup y=some .local)/\(k=.cell\/k=.free->names.lookup y=some .free)
 |[],_,_,_,h=>by simp at h
 |(n,k0)::r,y,k,nc,h=>by
  have ih:=@Zy env r y k (fun p hp=>nc p (Zm2 _ hp))
  have nc0:=nc (n,k0) ZmU
  have h':List.lookup y ((if (k0==NameKind.free&&env.scope.kind==.function&&env.kindOf n==some .cell)=true then (n,NameKind.cell) else (n,k0))::(r.map fun(n,k)=>if (k==NameKind.free&&env.scope.kind==.function&&env.kindOf n==some .cell) then (n,NameKind.cell) else (n,k)))=some k:=h
  cases hx:y==n with
  |true =>
   by_cases hc:(k0==NameKind.free&&env.scope.kind==.function&&env.kindOf n==some .cell)=true
   ·rw[if_pos hc] at h'
    simp only[Zmv,hx] at h'
    have hk:NameKind.cell=k:=Option.some.inj h'
    subst hk
    have hf:k0=.free:=by
     simp only[Bool.and_eq_true] at hc
     exact beq_iff_eq.mp hc.1.1
    subst hf
    exact⟨(fun z=>nomatch z),fun _=>by simp[Zmv,hx]⟩
   ·rw[if_neg hc] at h'
    simp only[Zmv,hx] at h'
    have hk:k0=k:=Option.some.inj h'
    subst hk
    refine⟨fun z=>by subst z;simp[Zmv,hx],fun z=>?_⟩
    rcases z with z|z
    ·exact absurd z nc0
    ·subst z;simp[Zmv,hx]
  |false =>
   by_cases hc:(k0==NameKind.free&&env.scope.kind==.function&&env.kindOf n==some .cell)=true
   ·rw[if_pos hc] at h'
    simp only[Zmv,hx] at h'
    have:=ih h'
    simpa[Zmv,hx] using this
   ·rw[if_neg hc] at h'
    simp only[Zmv,hx] at h'
    have:=ih h'
    simpa[Zmv,hx] using this
noncomputable def blk (X:Cx) (scope:Scope) (x:Str) (C:Addr) (ex:List Addr) (s₂:Shared) (H₂:Hp):Cx:=
 { X with N:=X.N++[x],s₀:=s₂,H₀:=H₂,env:=compEnvC scope (QA scope X.env) C X.env,outer:=X.stack,ex:=ex,fn:=fun _=>false,pn:=[],xe:=fun _ _=>False }
noncomputable def Uw (N:List Str) (sc scope:Scope) (x:Str):Bool:=
 (scope.names.all fun p=>!(p.2==.cell))&&(scope.kind==.function)&&(scope.names.all fun p=>!(p.2==.local) || scope.names.lookup p.1==some .local)&&(scope.names.lookup x==some .local)
  && (N.all fun y=>!(scope.names.lookup y==some .local))&&(scope.names.all fun p=>!(p.2==.free) || sc.names.lookup p.1==some .cell || sc.names.lookup p.1==some .free)
structure JS (N:List Str) (sc scope:Scope) (x:Str):Prop where
 nc:∀p∈scope.names,p.2≠.cell
 kind:scope.kind=.function
 locs:∀p∈scope.names,p.2=.local->scope.names.lookup p.1=some .local
 var:scope.names.lookup x=some .local
 noN:∀y∈N,scope.names.lookup y≠some .local
 fr:∀p∈scope.names,p.2=.free->sc.names.lookup p.1=some .cell\/sc.names.lookup p.1=some .free
theorem JS.of {N:List Str}{sc scope:Scope}{x:Str} (h:Uw N sc scope x=true):JS N sc scope x:=by
 unfold Uw at h
 simp only[Bool.and_eq_true,ZmN,Bool.or_eq_true,Bool.not_eq_true',beq_iff_eq,beq_eq_false_iff_ne] at h
 obtain⟨⟨⟨⟨⟨h1,h2⟩,h3⟩,h4⟩,h5⟩,h6⟩:=h
 refine⟨h1,h2,fun p hp e=>?_,h4,h5,fun p hp e=>?_⟩
 ·rcases h3 p hp with z|z
  ·exact absurd e z
  ·exact z
 ·rcases h6 p hp with (z|z)|z
  ·exact absurd e z
  ·exact .inl z
  ·exact .inr z
section
variable {X:Cx}{pins:List (Addr×Obj)}{σ:St}{H:Hp}{s:Shared}
theorem Inv.adopt {D:Addr}{ys:List V}{its:List Value}{n:Nat} (I:Inv X pins σ H s) (hn:H D=none) (h1:X.s₀.heap.objs.size<=D) (hL:D≠X.env.locals) (hc:∀x c,X.env.cells.lookup x=some c->c≠D)
  (hp:∀p∈X.pn++pins,p.1≠D) (ho:s.heap.get? D=some { cls:=.type "list",data:=.seq its.toArray n }) (r:ZZ ys its) (hz:ys.length<=sizeLine):Inv X pins σ (upd H D (.lst ys)) s:=by
 refine I.step (h':=s.heap) (g':=s.gens) (d':=s.drawn) (t':=s.toks) (ch:=[D]) (fun b hb=>?_) (fun b o _ _ _ e _=>e) (fun b o _ _ _ e _=>⟨o.slots,e⟩) (fun b o hb _ e=>?_) (fun b o _ e=>⟨o,e⟩)
  (fun b xs e=>?_) (fun b o u e=>?_) (fun b ps e=>⟨#[], ?_⟩) (fun m hm=>hm) (fun b u e=>?_) I.bare
 ·have e:b=D:=by simpa using hb
  subst e
  exact⟨.inr h1,hL,hc,hp⟩
 ·rw[Z1 (by simpa using hb)];exact e
 ·rw[Z1 (Z3 e hn)];exact e
 ·rw[Z1 (Z3 e hn)];exact e
 ·rw[Z1 (Z3 e hn),e];simp
 ·by_cases hb:b=D
  ·subst hb
   rw[ZO] at e;cases e
   exact⟨hz,its,n,r,ho⟩
  ·rw[Z1 hb] at e
   exact(I.hok b u e).stay (fun c v _ q=>q) (fun c q=>by rw[Z1 (Z3 q hn)];exact q) fun c xs q=>by rw[Z1 (Z3 q hn)];exact q
variable {s₂:Shared}{H₂:Hp}{scope:Scope}{x:Str}{fp:List Addr}
theorem Ju {sc:JS X.N X.env.scope scope x} (ok:X.Ok) {y:Str}{c:Addr} (h:(QA scope X.env).lookup y=some c):X.env.cells.lookup y=some c:=by
 have hm:=PySem.mem_of_lookup h
 unfold QA at hm
 obtain⟨p,hp,e⟩:=Zm5.mp hm
 have hp':=ZmT.mp (Znp.mp hp)
 obtain⟨e1,e2⟩:=Prod.mk.inj e
 have hk:=sc.fr p hp'.1 (beq_iff_eq.mp hp'.2)
 obtain⟨c',hc'⟩:=ok.has p.1 hk
 rw[hc'] at e2
 rw[<- e1,hc']
 exact congrArg some e2
theorem VX {y:Str} (h:scope.names.lookup y=some .free):∃c,(QA scope X.env).lookup y=some c:=by
 have hm:=PySem.mem_of_lookup h
 refine Vs (b:=(X.env.cells.lookup y).getD 0) ?_
 unfold QA
 exact Zm5.mpr ⟨(y,.free),Znp.mpr (ZmT.mpr ⟨hm,rfl⟩),rfl⟩
theorem Zg8 (I:Inv X pins σ H₂ s₂) (sc:JS X.N X.env.scope scope x) {C:Addr} (hC:s₂.heap.objs.size<=C) (ff:∀b∈fp,Zbp X pins H₂ b) (fo:∀b∈fp,∃o,s₂.heap.get? b=some o):(blk X scope x C fp s₂ H₂).Ok where
 mod:=I.ok.mod
 kind:=sc.kind
 glob:=I.ok.glob
 blt:=I.ok.blt
 above:=hC
 inj:=fun y z c h1 h2=>I.ok.inj y z c (Ju (sc:=sc) I.ok h1) (Ju (sc:=sc) I.ok h2)
 has:=fun y hy=>by
  have hy':(relabel scope X.env).names.lookup y=some .cell\/(relabel scope X.env).names.lookup y=some .free:=hy
  have hf:scope.names.lookup y=some .free:=by
   rcases hy' with z|z
   ·exact(Zy sc.nc z).2 (.inl rfl)
   ·exact(Zy sc.nc z).2 (.inr rfl)
  exact VX hf
 cab:=fun y c h=>by cases h
 hd:=I.ok.hd
 frames:=I.ok.frames
 stk:=.inl rfl
 exf:=fun b hb=>by
  obtain⟨f0,f1,f2,f3,f4,f5⟩:=ff b hb
  obtain⟨o,ho⟩:=fo b hb
  exact⟨Zmk (ZlX (Heap.lt_size ho) hC),fun y c h=>f4 y c (Ju (sc:=sc) I.ok h)⟩
 bs:=I.bs
 bsz:=Zml I.ok.bsz I.sz
 noex:=fun b o e hb=>by
  obtain⟨f0,f1,f2,f3,f4,f5⟩:=ff b hb
  rcases f3 with z|z
  ·exact I.ok.noex b o e z
  ·exact absurd (ZlX (Heap.lt_size e) (Zml I.ok.bsz z)) (Zmu _)
 exfs:=fun b hb z=>by
  obtain⟨f0,f1,f2,f3,f4,f5⟩:=ff b hb
  rcases Zmf.mp (I.stkSub b z) with e|e
  ·exact f1 e
  ·exact f2 e
 funs:=I.stack
 frf:=I.stkFree
end
def ZdR (σ:St) (te:TE) (J:It) (H1:Hp) (Q:VK):Prop:=∃W:Nat->Nat->List V->Hp->Prop,(∃m,W 0 m [] H1)/\∀i m ys H2,W i m ys H2->ys.length<=sizeLine /\
 ((J.stop i H2/\∀p,H2 p=none->Q (.ref p) (upd H2 p (.lst ys))) \/
  (J.go i H2/\∃N:List V->Hp->Prop,(∀ys' H',N ys' H'->∃m',m'<m/\W (i+1) m' ys' H')/\∀x H3,J.yld i H2 x H3->te (σ++[some x]) H3 fun y H4=>N (ys++[y]) H4))
noncomputable def ZcU (wi:TI) (te:TE):TE:=fun σ H Q=>wi σ H fun J H1=>ZdR σ te J H1 Q
section
variable {X:Cx}{pins:List (Addr×Obj)}{σ:St}{s₂:Shared}{H₂:Hp}{scope:Scope}{x:Str}{px:Pos}{elt iter:Expr}{pos:Pos}{te:TE}{J:It}{fp:List Addr}{it:Addr}{tn:Nat->Heap->Prop}
theorem ZaL {E:Value->Shared->Prop}{Q:VK}{RR:Value->Addr->Result->Shared->Prop} (I:Inv X pins σ H₂ s₂) (sc:JS X.N X.env.scope scope x) (hNd:X.N.Nodup) (hc:X.calm=true)
  (T:Zfz X.prog X.w X.K (.Name x px) J fp it tn) (st:tn 0 s₂.heap) (ff:∀b∈fp,Zbp X pins H₂ b) (hw:ZdR σ te J H₂ Q)
  (he:∀C s₂ H₂ ex,PE (blk X scope x C ex s₂ H₂) elt te)
  (hRR:∀D C s' H' m',s₂.heap.objs.size<=C->Inv X pins σ H' s'->s'.heap.Ns C m'->H' C=none->Q (.ref D) H'->RR (.ref D) C (.ok .next) s') :
  wpAny (model X.prog X.w) X.A (newList []) (fun acc s₃=>wpAny (model X.prog X.w) X.A (newFunctionEnv scope X.env.globals (QA scope X.env) [] X.env.qual none .none (some X.env)) (fun cenv s₄ =>
   codeAny (model X.prog X.w) X.A (.compStart (.ListComp elt [⟨.Name x px,iter,[],0⟩] scope pos) 0 (.ref it) acc { cenv with scope:=relabel scope X.env }) (RR acc cenv.locals) s₄) E s₃) E s₂:=by
 refine wpAny_newObj_type (wpAny_newFunctionEnv sc.nc (by intro y hy;simp at hy) (fun h₁ hns₁ hsb₁=>?_) sc.kind)
 dsimp only at hns₁ hsb₁ ⊢
 generalize hP2:s₂.heap.push { cls:=.type "list",dict:=none,data:=.seq ([]:List Value).toArray }=P2 at hns₁ hsb₁ ⊢
 have hCs:P2.objs.size=s₂.heap.objs.size+1:=by rw[<- hP2,Heap.size_push]
 have hCle:s₂.heap.objs.size<=P2.objs.size:=by rw[hCs];exact Nat.le_succ _
 have hDC:s₂.heap.objs.size≠P2.objs.size:=by rw[hCs];exact Zmk (Znq _)
 generalize hCe:P2.objs.size=C at hns₁ hsb₁ hCs hCle hDC ⊢
 generalize hDe:s₂.heap.objs.size=D at hCs hCle hDC ⊢
 have fo:∀b∈fp,∃o,s₂.heap.get? b=some o:=fun b hb=>let ⟨o,e,_⟩:=T.obj _ _ st b hb;⟨o,e⟩
 have flt:∀b∈fp,b<D:=fun b hb=>by obtain⟨o,e⟩:=fo b hb;rw[<- hDe];exact Heap.lt_size e
 have old:∀b o,s₂.heap.get? b=some o->h₁.get? b=some o:=fun b o e=>by
  have hb:=Heap.lt_size e
  exact hsb₁.extBut b o (Zmk (by rw[hCs];exact Nat.lt_succ_of_lt (hDe▸hb))) (Heap.get?_push_of_some _ (hP2▸Heap.get?_push_of_some _ e))
 have hacc:h₁.get? D=some { cls:=.type "list",data:=.seq ([]:List Value).toArray 0 }:=hsb₁.extBut _ _ hDC (Heap.get?_push_of_some _ (hP2▸hDe▸Heap.get?_push_size _ rfl))
 have okB:=Zg8 (x:=x) (C:=C) I sc (by rw[hDe];exact hCle) ff fo
 have hfreshD:H₂ D=none:=I.hok.fresh (by rw[hDe];exact ZlY _)
 have hfreshC:H₂ C=none:=I.hok.fresh (by rw[hDe];exact hCle)
 have hxN:x ∉ X.N:=fun z=>sc.noN x z sc.var
 have ndB:(X.N++[x]).Nodup:=List.nodup_append.mpr ⟨hNd,by simp,fun a ha b hb=>by
  have:b=x:=by simpa using hb
  subst this;rintro rfl;exact hxN ha⟩
 have I0:Inv (blk X scope x C fp s₂ H₂) [(D,{ cls:=.type "list",data:=.seq ([]:List Value).toArray 0 })] (σ++[none]) H₂ { s₂ with heap:=h₁,toks:=s₂.toks+([]:List (Str×Value)).length }:=by
  refine⟨okB,rfl,I.bare,Un.kept old,⟨_,hns₁,fun i y v e1 e2 e3=>?_⟩,fun y c e=>?_,hfreshC,fun y c e=>I.freeC y c (Ju (sc:=sc) I.ok e),fun p hp=>?_,I.hok.kept old,by simp[blk,I.len]⟩
  ·have hi:i<σ.length:=by
    by_cases hi:i<σ.length
    ·exact hi
    ·rw[ZlZ (by omega)] at e2
     have:([none]:St)[i-σ.length]?=some (some v):=e2
     cases hj:i-σ.length with
     |zero=>rw[hj] at this;simp at this
     |succ j=>rw[hj] at this;simp at this
   rw[ZlV hi] at e2
   have e1':(X.N++[x])[i]?=some y:=e1
   rw[ZlV (by rw[<- I.len];exact hi)] at e1'
   have yN:y∈X.N:=ZmR e1'
   have e3':(relabel scope X.env).names.lookup y=some .local\/(relabel scope X.env).names.lookup y=some .cell\/(relabel scope X.env).names.lookup y=some .free:=e3
   have hcf:(relabel scope X.env).names.lookup y=some .cell\/(relabel scope X.env).names.lookup y=some .free:=by
    rcases e3' with z|z
    ·exact absurd ((Zy sc.nc z).1 rfl) (sc.noN y yN)
    ·exact z
   have hfree:scope.names.lookup y=some .free:=by
    rcases hcf with z|z
    ·exact(Zy sc.nc z).2 (.inl rfl)
    ·exact(Zy sc.nc z).2 (.inr rfl)
   obtain⟨c,hcl⟩:=VX (X:=X) hfree
   have hcx:=Ju (sc:=sc) I.ok hcl
   have hvis:=sc.fr _ (PySem.mem_of_lookup hfree) rfl
   obtain⟨m,hn,hl⟩:=I.loc
   obtain⟨u,ru,hlook⟩:=hl i y v e1' e2 (.inr hvis)
   refine⟨u,ru,.inr ⟨hcf,c,hcl, ?_⟩⟩
   rcases hlook with ⟨k,_⟩|⟨k,c',ec,hcell⟩
   ·have k':X.env.scope.names.lookup y=some .local:=k
    have hv':X.env.scope.names.lookup y=some .cell\/X.env.scope.names.lookup y=some .free:=hvis
    rw[k'] at hv'
    rcases hv' with z|z<;>cases z
   ·rw[hcx] at ec;cases ec
    obtain⟨o,ho,hd⟩:=hcell
    exact⟨o,old _ _ ho,hd⟩
  ·obtain⟨v,o,ho,hd⟩:=I.cell y c (Ju (sc:=sc) I.ok e)
   exact⟨v,o,old _ _ ho,hd⟩
  ·have e:p=(D,{ cls:=.type "list",data:=.seq ([]:List Value).toArray 0 }):=by simpa[blk] using hp
   subst e
   exact⟨hacc,hfreshD,hDC,(fun z=>by
    rcases Zmf.mp (I.stkSub D z) with e|e
    ·exact absurd I.lt (by rw[<- e,hDe];exact Zmu _)
    ·exact I.nofs (by rw[hDe];exact ZlY _) e),fun v z=>nomatch z⟩
 obtain⟨W,⟨m0,w0⟩,turn⟩:=hw
 have fpB:∀{H':Hp}{o:Obj},(∀b∈fp,H' b=none)->∀b∈fp,Zbp (blk X scope x C fp s₂ H₂) [(D,o)] H' b:=fun {H' o} hn b hb=>by
  obtain⟨f0,f1,f2,f3,f4,f5⟩:=ff b hb
  obtain⟨g1,g2⟩:=okB.exf b hb
  exact⟨hn b hb,g1,okB.exfs b hb,.inl hb,g2,fun p hp=>by
   have e:p=(D,o):=by simpa[blk] using hp
   subst e
   exact(Zmk (flt b hb)).symm⟩
 have hσ:σ.length=X.N.length:=I.len
 have loop:∀s₃:Shared,s₃={ s₂ with heap:=h₁,toks:=s₂.toks+([]:List (Str×Value)).length } ->
   codeAny (model X.prog X.w) X.A (.compLoop (.ListComp elt [⟨.Name x px,iter,[],0⟩] scope pos) 0 (.ref it) (.ref D) (compEnvC scope (QA scope X.env) C X.env)) (RR (.ref D) C) s₃:=by
  rintro s₃ rfl
  refine codeAny_compLoop_tests
   (fun n s'=>∃i ys its k σx H',Inv (blk X scope x C fp s₂ H₂) [(D,{ cls:=.type "list",data:=.seq (List.toArray its) k })] (σ++[σx]) H' s'/\tn i s'.heap/\(∀b∈fp,H' b=none)/\ZZ ys its/\W i n ys H') ?_ m0
   ⟨0,[],[],0,none,H₂,I0,T.keep _ _ _ st (fun b hb o e=>old b o e),fun b hb=>(ff b hb).1,.nil,w0⟩
  rintro n s' ⟨i,ys,its,k,σx,H',I',st',fr',rv,w'⟩
  obtain⟨hz,hcase⟩:=turn i n ys H' w'
  have hpinD:=I'.pin (D,{ cls:=.type "list",data:=.seq (List.toArray its) k }) (by simp[blk])
  rcases hcase with ⟨stop,q⟩|⟨go,N,hN,step⟩
  ·refine thn (T.done (blk X scope x C fp s₂ H₂) rfl rfl rfl hc i _ s' _ H' _ I' (fpB fr') st' stop) fun r s4 ⟨hr,I4⟩=>?_
   subst hr
   have pD:=I4.pin (D,{ cls:=.type "list",data:=.seq (List.toArray its) k }) (by simp[blk])
   obtain⟨m4,hn4,_⟩:=I4.loc
   have IX:Inv X pins σ H' s4:=I.call' I4.os I4.base I4.hok I4.bare fun b hb=>by
    obtain⟨f0,f1,f2,f3,f4,f5⟩:=ff b hb
    exact⟨f3,f1,f4,f5⟩
   have IX2:=IX.adopt (D:=D) (ys:=ys) (its:=its) (n:=k) hpinD.2.1 (by rw[<- hDe];exact I.sz) (by rw[<- hDe];exact ZmQ I.lt)
    (fun y c e z=>by
     obtain⟨v,o,ho,hd⟩:=I.cell y c e
     have:=Heap.lt_size ho
     rw[hDe,z] at this
     exact Zmu _ this)
    (fun p hp z=>by
     have:=Heap.lt_size (I.pin p hp).1
     rw[hDe,z] at this
     exact Zmu _ this) pD.1 rv hz
   refine hRR D C s4 _ m4 (by rw[hDe];exact hCle) IX2 hn4 ?_ (q D hpinD.2.1)
   rw[Z1 (Ne.symm hDC)]
   exact I4.free
  ·refine thn (T.item (blk X scope x C fp s₂ H₂) rfl rfl rfl hc i _ s' _ H' _ I' (fpB fr') st' go) fun r s4 ⟨u,hr,h4⟩=>?_
   subst hr
   show wpAny _ _ (letOwnedTupleGo (.Name x px) (.ref it) u >>= fun _=>assign (.Name x px) (compEnvC scope (QA scope X.env) C X.env) u) _ _ s4
   refine wpAny_bind (thn h4 fun _ s5 ⟨y,H5,I5,r5,y5,st5,fr5⟩=>?_)
   have I5':=I5.pinned (fpB fr5) (T.obj _ _ st5)
   refine wpAny_assign_Name ?_
   refine VQ (X:=blk X scope x C fp s₂ H₂) (i:=X.N.length) (x:=x) (v:=y) I5' ndB (by simp[blk]) (.inl (lookup_relabel_local sc.var)) r5 (fun s6 I6=>?_) (.inr (lookup_relabel_local sc.var))
   have eσ:(σ++[σx]).set X.N.length (some y)=σ++[some y]:=by
    rw[<- hσ];simp
   rw[eσ] at I6
   refine wpAny_tests_nil ?_
   simp only[if_true]
   refine wpAny_mono (he C s₂ H₂ fp _ s6 _ H5 _ I6 (step y H5 y5)) (fun u7 s7 h7=>?_) fun _ _ f=>f.elim
   obtain⟨v7,H7,I7,r7,n7⟩:=h7
   have pD7:=I7.pin (D,{ cls:=.type "list",data:=.seq (List.toArray its) k }) (by simp[blk])
   have hlen:=rv.length
   refine append_at (hsz:=by show its.toArray.size<=sizeLine;rw[ZlW,<- hlen];exact hz) pD7.1 fun h8 hs8 hD8=>?_
   obtain⟨m',hm,w8⟩:=hN _ _ n7
   have hD8':h8.get? D=some { cls:=.type "list",data:=.seq (its++[u7]).toArray (k+1) }:=by rw[hD8,List.push_toArray]
   have I8:Inv (blk X scope x C fp s₂ H₂) [] (σ++[some y]) H7 { s7 with heap:=h8 }:=by
    refine(I7.pins_of (pins':=[]) fun p hp=>absurd hp (by simp)).turned (t':=s7.toks) (it:=D) (fun b o hb e=>(hs8.2 b hb).trans e) pD7.2.1 pD7.2.2.1 (.inr (by show s₂.heap.objs.size<=D;rw[hDe];exact ZlY _)) (fun y' c' e' z=>?_) fun p hp=>absurd (show p∈([]:List (Addr×Obj)) from by simpa[blk] using hp) (by simp)
    obtain⟨v,o,ho,hd⟩:=I.cell y' c' (Ju (sc:=sc) I.ok e')
    have:=Heap.lt_size ho
    rw[hDe,z] at this
    exact Zmu _ this
   refine⟨m',hm,i+1,ys++[v7],its++[u7],k+1,some y,H7,I8.pins_of fun p hp=>?_, ?_,fun b hb=>?_,rv.append (.cons r7 .nil),w8⟩
   ·have e:p=(D,{ cls:=.type "list",data:=.seq (its++[u7]).toArray (k+1) }):=by simpa using hp
    subst e
    exact⟨hD8',pD7.2.1,pD7.2.2.1,pD7.2.2.2.1,fun v z=>nomatch z⟩
   ·refine T.keep _ _ _ st5 fun b hb o e=>?_
    have hpb:=I7.pin (b,o) (ZlT _ (ZlT _ (Jf hb e)))
    exact(hs8.2 b (Zmk (flt b hb))).trans hpb.1
   ·obtain⟨o,e,d⟩:=T.obj _ _ st5 b hb
    exact(I7.pin (b,o) (ZlT _ (ZlT _ (Jf hb e)))).2.1
 exact codeAny_compStart_list (loop _ rfl) (T.self _ 0 _ _ _ (T.keep _ _ _ st fun b hb o e=>old b o e) (loop _ rfl))
theorem UO {wi:TI} (hi:PI X (.Name x px) iter wi) (he:∀C s₂ H₂ ex,PE (blk X scope x C ex s₂ H₂) elt te) (hNd:X.N.Nodup) (hc:X.calm=true)
  (hclos:closureFor scope X.env=pure (QA scope X.env):=by rfl) (hchk:Uw X.N X.env.scope scope x=true:=by rfl) (hs:∀x,foldedSetIterable iter X.env x=pure x:=by exact fun _=>rfl) :
  PE X (.ListComp elt [⟨.Name x px,iter,[],0⟩] scope pos) (ZcU wi te):=by
 intro pins s σ H Q I h
 have sc:=JS.of hchk
 rw[eval_ListComp]
 refine wpAny_comprehension_free (use:=none) rfl hs hclos sc.kind sc.locs (thn (hi pins s σ H _ I h) fun xv s₁ h₁=>thn h₁ fun itv s₂ h₂=>?_)
 obtain⟨it,fp,tn,J,H2,e,I2,T,st2,f2,q⟩:=h₂
 subst e
 refine ZaL (RR:=fun acc C=>compPost (model X.prog X.w) X.A X.xe none (EP X pins σ Q) acc C) I2 sc hNd hc T st2 f2 q he ?_
 intro D C s' H' m' hC I' hn hC0 hq
 refine⟨m',hn,fun h'' hs''=>⟨.ref D,H', ?_,rfl,hq⟩⟩
 refine I'.turned (t':=s'.toks) (it:=C) (fun b o hb e=>(hs''.2 b hb).trans e) hC0 (ZmQ (ZlX I2.lt hC)) (.inr (Zml I2.sz hC)) (fun y c e z=>?_) fun p hp z=>?_
 ·obtain⟨v,o,ho,hd⟩:=I2.cell y c e
  exact absurd (Heap.lt_size ho) (ZmW.mpr (by rw[z];exact hC))
 ·exact absurd (Heap.lt_size (I2.pin p hp).1) (ZmW.mpr (by rw[z];exact hC))
noncomputable def Zak (i:Nat) (wi:TI) (te:TE):TS:=fun D σ H=>ZcU wi te σ H fun v H'=>D.nx (σ.set i (some v)) H'
theorem U4 {i:Nat}{y:Str}{py spos:Pos}{wi:TI} (hN:X.N.Nodup) (hi:X.N[i]?=some y) (hit:PI X (.Name x px) iter wi) (he:∀C s₂ H₂ ex,PE (blk X scope x C ex s₂ H₂) elt te) (hc:X.calm=true)
  (hsw:swapsWith (.ListComp elt [⟨.Name x px,iter,[],0⟩] scope pos) (some (.Name y py)) spos.line X.env=pure true:=by rfl) (hy:X.env.scope.names.lookup y=some .local:=by rfl)
  (hclos:closureFor scope X.env=pure (QA scope X.env):=by rfl) (hchk:Uw X.N X.env.scope scope x=true:=by rfl) (hs:∀x,foldedSetIterable iter X.env x=pure x:=by exact fun _=>rfl) :
  PS X (.Assign [.Name y py] (.ListComp elt [⟨.Name x px,iter,[],0⟩] scope pos) spos) (Zak i wi te):=by
 intro pins s σ H D0 I h
 have sc:=JS.of hchk
 rw[exec_Assign_Name_used _ _ _ _ hsw]
 refine wpAny_bind (wpAny_standAt (wpAny_bind ?_))
 show wpAny _ X.A (do let _ <- comprehension (.ListComp elt [⟨.Name x px,iter,[],0⟩] scope pos) scope X.env _ (newList []) false (eval iter X.env) (some (assign (.Name y py) X.env))) _ _ s
 refine wpAny_bind (wpAny_mono (wpAny_comprehension_free (use:=some (assign (.Name y py) X.env)) (Q:=fun _ s'=>SP X pins D0 .next s') rfl hs hclos sc.kind sc.locs
  (thn (hit pins s σ H _ I h) fun xv s₁ h₁=>thn h₁ fun itv s₂ h₂=>?_)) (fun _ s' hq=>wpAny_pure (wpAny_pure hq)) fun _ _ e=>e)
 obtain⟨it,fp,tn,J,H2,e,I2,T,st2,f2,q⟩:=h₂
 subst e
 refine ZaL (RR:=fun acc C=>compPost (model X.prog X.w) X.A X.xe (some (assign (.Name y py) X.env)) (fun _ s'=>SP X pins D0 .next s') acc C) I2 sc hN hc T st2 f2 q he ?_
 intro D C s' H' m' hC I' hn hC0 hq
 show wpAny _ X.A (assign (.Name y py) X.env (.ref D)) _ _ _
 have cellC:∀y c,X.env.cells.lookup y=some c->c≠C:=fun y c e z=>by
  obtain⟨v,o,ho,hd⟩:=I2.cell y c e
  exact absurd (Heap.lt_size ho) (ZmW.mpr (by rw[z];exact hC))
 have locC:C≠X.env.locals:=ZmQ (ZlX I2.lt hC)
 refine wpAny_assign_Name (Ue (i:=i) (v:=.ref D) I' hN hi (.inl hy) rfl (fun s'' I'' ⟨a,hsa,ha⟩=>?_) (.inr hy))
 have hCa:C≠a:=by
  rcases ha with z|z
  ·rw[z];exact locC
  ·exact(cellC _ _ z).symm
 refine⟨m',hn.sameBut hsa hCa,fun h'' hs''=>⟨σ.set i (some (.ref D)),H', ?_,hq⟩⟩
 refine I''.turned (t':=s''.toks) (it:=C) (fun b o hb e=>(hs''.2 b hb).trans e) hC0 locC (.inr (Zml I2.sz hC)) cellC fun p hp z=>?_
 exact absurd (Heap.lt_size (I2.pin p hp).1) (ZmW.mpr (by rw[z];exact hC))
end
end L2
namespace HL
open PySem PyProof.Rows
section
open PySem.SeqAt
open PySem.AutoSeq1 (wpAny_loadPart')
open PySem.MeetsSeq PySem.MeetsSeq2 PySem.MeetsSeq3 SeqRoads2
end
section
end
end HL
namespace L2
open PySem PySem.Spec PyProof.Rows
section
variable {X:Cx}
theorem ZdI (hc:X.calm=true):VP X (.builtin "sum") (fun xs H Q=>∃p,∃ns:List Int,xs=[.ref p]/\SqL X.K H p (ns.map V.int)/\Q (.int ns.sum) H):=by
 intro pins s σ H xs us Q I r h
 obtain⟨p,ns,rfl,hq,q⟩:=h
 obtain⟨u,rfl,rx⟩:=ZcR r
 cases rx
 obtain⟨its,r',pl,hz⟩:=I.list hq
 have hi:IntsAre its ns:=Zbf r'
 obtain⟨xs,hx⟩:=hi.allInts.items
 have hl':s.heap.IsList p (intItems xs):=hx▸pl.isList
 refine sum_intListG (I.ok.hd hc) hl' fun h' tk t' hk=>?_
 have e1:ns=xs.toList.map (·.1):=by
  rw[<- nums_intItems,<- hx]
  exact(show numsOf its.toArray.toList=ns from hi.numsOf).symm
 have e2:preSum (numAt xs) xs.size=ns.sum:=by
  rw[preSum_eq,List.take_of_length_le (by simp),e1]
 rw[e2]
 exact⟨.int ns.sum,H,I.kept hk,⟨_,rfl⟩,q⟩
theorem Uy:∀{bs:List Bool}{us:List Value},ZZ (bs.map V.bl) us->LSm.BoolsAre us bs
 |[],_,.nil=>.nil
 |b::bs,_,.cons r t=>by
  cases r
  exact .cons b (Uy t)
theorem ZdJ (hc:X.calm=true):VP X (.builtin "all") (fun xs H Q=>∃p,∃bs:List Bool,xs=[.ref p]/\SqL X.K H p (bs.map V.bl)/\Q (.bl (bs.all id)) H):=by
 intro pins s σ H xs us Q I r h
 obtain⟨p,bs,rfl,hq,q⟩:=h
 obtain⟨u,rfl,rx⟩:=ZcR r
 cases rx
 obtain⟨its,r',pl,hz⟩:=I.list hq
 have hb:=Uy r'
 have hlt:p<s.heap.objs.size:=by obtain⟨_,e,_⟩:=pl.isList;exact Heap.lt_size e
 refine call_all_walk (wpAny_pyIter_list pl.isList ?_)
 refine⟨s.heap.objs.size,[s.heap.objs.size,p],[s.heap.objs.size],its.toArray.size,_,_,fun i=>(bs[i]?).getD true,rfl,Walks.list (A:=X.A.in1) (I.ok.hd hc) _ p (Zmk hlt) its.toArray,
  ⟨⟨_,Heap.get?_push_size _ rfl,rfl,rfl⟩,pl.isList.push _⟩,fun i v s' Q' E' hP hQ=>?_,fun h' tk hk=>?_⟩
 ·obtain⟨b,e,rfl⟩:=hb.get i v (by simpa using hP)
  dsimp only at hQ
  rw[e,Zne] at hQ
  exact wpAny_truthy_bool hQ
 ·rw[ZlW,hb.length,LSm.range_all]
  exact⟨.bl (bs.all id),H,I.kept (LSm.kept_iter hk),rfl,q⟩
end
end L2
namespace HL
open PySem PyProof.Rows
section
end
section
open PySem.SeqAt
open PySem.AutoSeq1 (wpAny_loadPart')
open PySem.MeetsSeq PySem.MeetsSeq2 PySem.MeetsSeq3
end
end HL
namespace HL
open PySem
end HL
namespace L2
open PySem PySem.Spec PyProof.Rows
section
end
def Dfn (K:W.Frag) (mg:Str->Option Value) (x:Str) (st:Stmt):Prop:=∃f fd,Fun K x x st f fd/\mg x=some (.ref f)
noncomputable abbrev Z8 (x:Str) (st:Stmt) (ps:List Str):Prop:=∀(kV doc pm:Value) (an:Option Addr) (cdv ct:Value) (us:List Value),us.length=ps.length ->
 bindArgs (PySem.W.fnOf x x (ZE st) (Z7 st) (Zi st) .none kV doc pm an cdv ct) ⟨us,[]⟩=pure (ps.zip us)
def Ok (P:Program) (w:World) (K:W.Frag) (mg:Str->Option Value) (base:Heap) (k:Nat) (x:Str) (ps:List Str) (sp:Sp):Prop:=
 ∃f fd,Va P w K mg base CX0 k f fd ps sp/\mg x=some (.ref f)/\PySem.W.keepIn K (.ref f)=true/\Zaj K fd ps []
theorem Qc {P:Program}{w:World}{K:W.Frag}{mg:Str->Option Value}{base:Heap}{k:Nat}{x:Str}{st:Stmt}{ps:List Str}{sp:Sp} (d:Dfn K mg x st) (b:Z8 x st ps)
  (h:∀{f fd},Fun K x x st f fd->Va P w K mg base CX0 k f fd ps sp):Ok P w K mg base k x ps sp:=by
 obtain⟨f,fd,F,hm⟩:=d
 exact⟨f,fd,h F,hm,F.kp,F.binds b⟩
section
variable {X:Cx}{k:Nat}{x:Str}{ps:List Str}{sp:Sp}{p pos:Pos}{e:Expr}{es:List Expr}{t:TA}
noncomputable def Ql (sp:Sp) (t:TA):TE:=fun σ H Q=>t σ H fun vs H1=>sp vs H1 Q E0
theorem Z4 (G:Ok X.prog X.w X.K X.mg X.base k x ps sp) (hr:U0 k X.A) (hg:Gl X x) (ha:PA X (e::es) t) (hdb:(x==("__debug__":Str))=false:=by decide)
  (he:starEach (e::es) X.env=(false,eval e X.env)::starEach es X.env:=by rfl) (hpl:(backTo pos (starEach es X.env)).any (·.1)=false:=by rfl):PE X (.Call (.Name x p) (e::es) [] pos) (Ql sp t):=by
 obtain⟨f,fd,F,hm,hk,hb⟩:=G
 intro pins s σ H Q I h
 refine Ze8 (CX:=CX0) (E:=E0) (dvs:=[]) F hr hg hm hk hb .nil Zhd ha hdb he hpl pins s σ H Q I ?_
 have e:(fun vs H1=>sp (vs++[]) H1 Q E0)=fun vs H1=>sp vs H1 Q E0:=by funext vs H1;rw[ZmF]
 show t σ H (fun vs H1=>sp (vs++[]) H1 Q E0)
 rw[e]
 exact h
theorem Zaz {i:Int} (hm:∃t,X.mg x=some (.int i t)) (hg:Gl X x) (hd:(x==("__debug__":Str))=false:=by decide):PE X (.Name x pos) (tC (.int i)):=by
 obtain⟨t,hm⟩:=hm
 exact Ze7 (v:=.int i) hg hm ⟨t,rfl⟩ hd
theorem ZdA:Zhw X (ZfD X.K):=by
 intro pins s σ H o i ov iv Q I ro ri h
 obtain⟨p,xs,i,z,rfl,rfl,hq,he,q⟩:=h
 cases ro
 obtain⟨t,rfl⟩:=ri
 obtain⟨its,r,pl,hz⟩:=I.list hq
 obtain⟨j,h1,h2,h3,h4,h5⟩:=Qa he
 obtain⟨w,ew,rw'⟩:=r.get h2
 have hl:=r.length
 have hn:=U9
 have fin:EP X pins σ Q w s:=⟨z,H,I,rw',q⟩
 by_cases h0:0<=i
 ·have hj:i.toNat=j:=by
   rw[seqIndex_of h0 h5] at h1
   exact Option.some.inj h1
  exact wpAny_getItem_list pl.isList h0 (by omega) (by rw[hj];simpa using ew) fin
 ·have hj:(i+(its.toArray.size:Int)).toNat=j:=by
   rw[seqIndex_neg (by omega) h4] at h1
   rw[ZlW,<- hl]
   exact Option.some.inj h1
  exact wpAny_getItem_list_neg pl.isList (by omega) (by rw[ZlW]<;>omega) (by omega) (by rw[hj];simpa using ew) fin
end
theorem ZcF {X:Cx}:VP X (.builtin "len") (fun xs H Q=>∃p ys,xs=[.ref p]/\(SqL X.K H p ys\/SqT X.K H p ys)/\Q (.int ys.length) H):=QC
theorem Jv:bootBuiltins "len"=some (.builtin "len"):=by decide +kernel
theorem ZN:bootBuiltins "isinstance"=some (.builtin "isinstance"):=by decide +kernel
theorem ZcJ:bootBuiltins "sum"=some (.builtin "sum"):=by decide +kernel
theorem Zem:bootBuiltins "all"=some (.builtin "all"):=by decide +kernel
theorem Vj:bootBuiltins "list"=some (.type "list"):=by decide +kernel
theorem Zel:bootBuiltins "int"=some (.type "int"):=by decide +kernel
theorem Zac:bootBuiltins "bool"=some (.type "bool"):=by decide +kernel
theorem ZdK:bootBuiltins "tuple"=some (.type "tuple"):=by decide +kernel
section
variable {X:Cx}{K:W.Frag}
theorem Zm (e:X.K=K:=by rfl):IxR X (rIx K):=by subst e;exact Zgr
theorem ZI (e:X.K=K:=by rfl):VP X (.builtin "len") (fun xs H Q=>∃p ys,xs=[.ref p]/\(SqL K H p ys\/SqT K H p ys)/\Q (.int ys.length) H):=by subst e;exact ZcF
theorem Ux (hc:X.calm=true) (e:X.K=K:=by rfl):VP X (.builtin "sum") (fun xs H Q=>∃p,∃ns:List Int,xs=[.ref p]/\SqL K H p (ns.map V.int)/\Q (.int ns.sum) H):=by subst e;exact ZdI hc
theorem QD (hc:X.calm=true) (e:X.K=K:=by rfl):VP X (.builtin "all") (fun xs H Q=>∃p,∃bs:List Bool,xs=[.ref p]/\SqL K H p (bs.map V.bl)/\Q (.bl (bs.all id)) H):=by subst e;exact ZdJ hc
theorem JA (e:X.K=K:=by rfl):VP X (.type "list") (fun xs H Q=>∃p ys,xs=[.ref p]/\(SqL K H p ys\/SqT K H p ys)/\∀l,H l=none->Q (.ref l) (upd H l (.lst ys))):=by subst e;exact QB
theorem Zap (e:X.K=K:=by rfl):SlR X (ZgZ K):=by subst e;exact Zex
theorem Q1 (e:X.K=K:=by rfl):Zhw X (ZfD K):=by subst e;exact ZdA
theorem UN {tg l:Expr}{tl:TE} (hl:PE X l tl) (e:X.K=K:=by rfl):PI X tg l (Zd7 K tl):=by subst e;exact Ze4 hl
variable {u:TS}{H:Hp}{b:TA}
theorem ZaB {n:Nat}{k:Int} (h0:0<=k) (h1:k<n):ixN n k=some k.toNat:=by unfold ixN;rw[if_pos h0,if_pos h1]
theorem Z6.upd {H H':Hp}{p:Addr}{o:HO} (h:Z6 H H') (hp:H p=none):Z6 H (upd H' p o):=fun b u e=>by
 rw[Z1 (Z3 e hp)]
 exact h b u e
theorem Z6.new {H:Hp}{p:Addr}{o:HO} (hp:H p=none):Z6 H (L2.upd H p o):=Z6.upd (Z6.refl H) hp
theorem VV {n:Nat} (h:n<=1000):n<=sizeLine:=Zml h (by decide)
end
inductive Sh where
 |dk (ks:List Key)|dt (ks:List (List Key))|ob (n:Str) (fs:List Str)
  |jk
  |ls
inductive PV where
 |non|bl (b:Bool)|int (i:Int)|str (x:Str)|lst (xs:List PV)|tup (xs:List PV)
  |exc (n:Str)
  |exa (n:Str) (i:Int)
  |box (p:Option Addr) (s:Sh) (xs:List PV)
  |fz (xs:List PV)
mutual
noncomputable def PV.flat:PV->Bool
 |.lst _=>false
 |.tup xs=>PV.flats xs
 |.non=>true
 |.bl _=>true
 |.int _=>true
 |.str _=>true
 |.exc _=>true
 |.exa _ _=>true
 |.box _ _ _=>false
 |.fz xs=>PV.flats xs
noncomputable def PV.flats:List PV->Bool
 |[]=>true
 |x::xs=>x.flat&&PV.flats xs
end
def KL (K:W.Frag) (a:Addr) (xs:List V):Prop:=
 ∃(o:Obj) (its:Array Value) (n:Nat),K.lookup a=some o/\o.cls=.type "list"/\o.dict=none/\o.data=.seq its n/\its.size<=sizeLine/\ZZ xs its.toList
noncomputable def ImO:HO->Prop
 |.tup _=>True
 |.frz _ _=>True
 |.xd _=>True
 |_=>False
def Im (K:W.Frag) (H:Hp) (a:Addr) (u:HO):Prop:=H a=some u/\ImO u
noncomputable def Lvo:HO->Prop
 |.lst _=>True
 |.dK _=>True
 |.dT _=>True
 |.ins _ _ _=>True
 |_=>False
noncomputable abbrev LvO:={ u:HO // Lvo u }
def Zfq (K:W.Frag) (n:Str) (C:Addr):Prop:=PySem.W.nsIn K mainGlobals n=some (some (.ref C))
def ZgE (K:W.Frag) (H:Hp) (n:Str) (v:V):Prop:=∃a o C,v=.ref a/\Im K H a (.frz o (.own a))/\o.cls=.ref C/\o.dict=none/\PySem.W.notCls o=true/\Zfq K n C
def ZgF (K:W.Frag) (H:Hp) (n:Str) (i:Int) (v:V):Prop:=∃a o C d fs,v=.ref a/\Im K H a (.frz o (.own a))/\Im K H d (.xd fs)/\o.cls=.ref C/\o.dict=some d/\PySem.W.notCls o=true/\Zfq K n C/\fs=[(("at":Str),V.int i)]
noncomputable def ZgQ (K:W.Frag):Sh->List V->HO->Prop
 |.dk ks,vs,u=>ks.length=vs.length/\u=.dK (ks.zip vs)
 |.dt ks,vs,u=>ks.length=vs.length/\u=.dT (ks.zip vs)
 |.ob n fs,vs,u=>fs.length=vs.length/\∃C dx,u=.ins C dx (fs.zip vs)/\Zfq K n C
 |.jk,vs,u=>vs=[]/\∃ws,u=.lst ws
 |.ls,vs,u=>u=.lst vs
def ZhT (p:Option Addr) (a:Addr):Prop:=match p with
 |none=>True
 |some b=>a=b
theorem ZgQ.lv {K:W.Frag}{s:Sh}{vs:List V}{u:HO} (h:ZgQ K s vs u):Lvo u:=by
 cases s with
 |dk ks=>obtain⟨_,rfl⟩:=h;trivial
 |dt ks=>obtain⟨_,rfl⟩:=h;trivial
 |ob n fs=>obtain⟨_,C,dx,rfl,_⟩:=h;trivial
 |jk=>obtain⟨_,ws,rfl⟩:=h;trivial
 |ls=>cases h;trivial
theorem Za9 {u o:HO} (h:Lvo u) (h':ImO o):o≠u:=by
 intro e;subst e
 cases o<;>first|exact h|exact h'
def FzL (K:W.Frag) (H:Hp) (a:Addr) (vs:List V):Prop:=∃o,Im K H a (.frz o (.lst vs))
mutual
noncomputable def Rep (K:W.Frag) (H:Hp) (S:Addr->Prop):PV->V->Prop
 |.non,v=>v=.non
 |.bl b,v=>v=.bl b
 |.int i,v=>v=.int i
 |.str x,v=>v=.str x
 |.exc n,v=>ZgE K H n v
 |.exa n i,v=>ZgF K H n i v
 |.box p s xs,v=>∃a vs u,v=.ref a/\(Rd H a u/\S a)/\(ZhT p a/\ZgQ K s vs u)/\Reps K H S xs vs
 |.lst xs,v=>∃a vs,v=.ref a/\((Rd H a (.lst vs)/\S a)\/KL K a vs)/\Reps K H S xs vs
 |.tup xs,v=>∃a vs,v=.ref a/\Im K H a (.tup vs)/\Reps K H S xs vs
 |.fz xs,v=>∃a vs,v=.ref a/\FzL K H a vs/\Reps K H S xs vs
noncomputable def Reps (K:W.Frag) (H:Hp) (S:Addr->Prop):List PV->List V->Prop
 |[],vs=>vs=[]
 |x::xs,vs=>∃v r,vs=v::r/\Rep K H S x v/\Reps K H S xs r
end
mutual
noncomputable def JB (K:W.Frag) (H:Hp):PV->V->List Addr->Prop
 |.non,v,F=>v=.non/\F=[]
 |.bl b,v,F=>v=.bl b/\F=[]
 |.int i,v,F=>v=.int i/\F=[]
 |.str x,v,F=>v=.str x/\F=[]
 |.exc n,v,F=>ZgE K H n v/\F=[]
 |.exa n i,v,F=>ZgF K H n i v/\F=[]
 |.box p s xs,v,F=>∃a vs u G,v=.ref a/\H a=some u/\(ZhT p a/\ZgQ K s vs u)/\Trees K H xs vs G/\a ∉ G/\F=a::G
 |.lst xs,v,F=>∃a vs G,v=.ref a/\H a=some (.lst vs)/\Trees K H xs vs G/\a ∉ G/\F=a::G
 |.tup xs,v,F=>∃a vs,v=.ref a/\Im K H a (.tup vs)/\Trees K H xs vs F
 |.fz xs,v,F=>∃a vs,v=.ref a/\FzL K H a vs/\Trees K H xs vs F
noncomputable def Trees (K:W.Frag) (H:Hp):List PV->List V->List Addr->Prop
 |[],vs,F=>vs=[]/\F=[]
 |x::xs,vs,F=>∃v r G1 G2,vs=v::r/\JB K H x v G1/\Trees K H xs r G2/\(∀a∈G1,a ∉ G2)/\F=G1++G2
end
section
variable {K:W.Frag}{H H':Hp}{S S':Addr->Prop}
mutual
theorem Rep.mono (h1:∀a u,S a->Rd H a u->Rd H' a u/\S' a) (h2:∀a u,Im K H a u->Im K H' a u):∀{x:PV}{v:V},Rep K H S x v->Rep K H' S' x v
 |.non,_,h=>h
 |.bl _,_,h=>h
 |.int _,_,h=>h
 |.str _,_,h=>h
 |.exc n,_,h=>let ⟨a,o,C,e1,e2,e3⟩:=h;⟨a,o,C,e1,h2 a _ e2,e3⟩
 |.exa n i,_,h=>let ⟨a,o,C,d,fs,e1,e2,e2',e3⟩:=h;⟨a,o,C,d,fs,e1,h2 a _ e2,h2 d _ e2',e3⟩
 |.box p s xs,_,h=>by
  obtain⟨a,vs,u,rfl,⟨n1,n2⟩,hb,hr⟩:=h
  exact⟨a,vs,u,rfl,h1 a u n2 n1,hb,Reps.mono h1 h2 hr⟩
 |.lst xs,_,h=>by
  obtain⟨a,vs,rfl,hn,hr⟩:=h
  refine⟨a,vs,rfl, ?_,Reps.mono h1 h2 hr⟩
  rcases hn with ⟨n1,n2⟩|n
  ·exact .inl (h1 a _ n2 n1)
  ·exact .inr n
 |.tup xs,_,h=>by
  obtain⟨a,vs,rfl,hn,hr⟩:=h
  exact⟨a,vs,rfl,h2 a _ hn,Reps.mono h1 h2 hr⟩
 |.fz xs,_,h=>by
  obtain⟨a,vs,rfl,⟨o,hn⟩,hr⟩:=h
  exact⟨a,vs,rfl,⟨o,h2 a _ hn⟩,Reps.mono h1 h2 hr⟩
theorem Reps.mono (h1:∀a u,S a->Rd H a u->Rd H' a u/\S' a) (h2:∀a u,Im K H a u->Im K H' a u):∀{xs:List PV}{vs:List V},Reps K H S xs vs->Reps K H' S' xs vs
 |[],_,h=>h
 |x::xs,_,h=>by
  obtain⟨v,r,rfl,h3,h4⟩:=h
  exact⟨v,r,rfl,Rep.mono h1 h2 h3,Reps.mono h1 h2 h4⟩
end
mutual
theorem JB.mono:∀{x:PV}{v:V}{F:List Addr},(∀a∈F,∀o,H a=some o->H' a=some o)->(∀a vs,Im K H a vs->Im K H' a vs)->JB K H x v F->JB K H' x v F
 |.non,_,_,_,_,h=>h
 |.bl _,_,_,_,_,h=>h
 |.int _,_,_,_,_,h=>h
 |.str _,_,_,_,_,h=>h
 |.exc n,_,_,_,h2,h=>let ⟨⟨a,o,C,e1,e2,e3⟩,e4⟩:=h;⟨⟨a,o,C,e1,h2 a _ e2,e3⟩,e4⟩
 |.exa n i,_,_,_,h2,h=>let ⟨⟨a,o,C,d,fs,e1,e2,e2',e3⟩,e4⟩:=h;⟨⟨a,o,C,d,fs,e1,h2 a _ e2,h2 d _ e2',e3⟩,e4⟩
 |.box p s xs,_,_,h1,h2,h=>by
  obtain⟨a,vs,u,G,rfl,ha,hb,ht,hn,rfl⟩:=h
  exact⟨a,vs,u,G,rfl,h1 a (by simp) _ ha,hb,Trees.mono (fun b hb o e=>h1 b (by simp[hb]) o e) h2 ht,hn,rfl⟩
 |.lst xs,_,_,h1,h2,h=>by
  obtain⟨a,vs,G,rfl,ha,ht,hn,rfl⟩:=h
  exact⟨a,vs,G,rfl,h1 a (by simp) _ ha,Trees.mono (fun b hb o e=>h1 b (by simp[hb]) o e) h2 ht,hn,rfl⟩
 |.tup xs,_,_,h1,h2,h=>by
  obtain⟨a,vs,rfl,ha,ht⟩:=h
  exact⟨a,vs,rfl,h2 a _ ha,Trees.mono h1 h2 ht⟩
 |.fz xs,_,_,h1,h2,h=>by
  obtain⟨a,vs,rfl,⟨o,ha⟩,ht⟩:=h
  exact⟨a,vs,rfl,⟨o,h2 a _ ha⟩,Trees.mono h1 h2 ht⟩
theorem Trees.mono:∀{xs:List PV}{vs:List V}{F:List Addr},(∀a∈F,∀o,H a=some o->H' a=some o)->(∀a vs,Im K H a vs->Im K H' a vs)->Trees K H xs vs F->Trees K H' xs vs F
 |[],_,_,_,_,h=>h
 |x::xs,_,_,h1,h2,h=>by
  obtain⟨v,r,G1,G2,rfl,h3,h4,hd,rfl⟩:=h
  exact⟨v,r,G1,G2,rfl,JB.mono (fun b hb o e=>h1 b (by simp[hb]) o e) h2 h3,Trees.mono (fun b hb o e=>h1 b (by simp[hb]) o e) h2 h4,hd,rfl⟩
end
mutual
theorem JB.rep:∀{x:PV}{v:V}{F:List Addr},(∀a∈F,S a)->JB K H x v F->Rep K H S x v
 |.non,_,_,_,h=>h.1
 |.bl _,_,_,_,h=>h.1
 |.int _,_,_,_,h=>h.1
 |.str _,_,_,_,h=>h.1
 |.exc _,_,_,_,h=>h.1
 |.exa _ _,_,_,_,h=>h.1
 |.box p s xs,_,_,h1,h=>by
  obtain⟨a,vs,u,G,rfl,ha,hb,ht,hn,rfl⟩:=h
  exact⟨a,vs,u,rfl,⟨.inl ha,h1 a (by simp)⟩,hb,Trees.reps (fun b hb=>h1 b (by simp[hb])) ht⟩
 |.lst xs,_,_,h1,h=>by
  obtain⟨a,vs,G,rfl,ha,ht,hn,rfl⟩:=h
  exact⟨a,vs,rfl,.inl ⟨.inl ha,h1 a (by simp)⟩,Trees.reps (fun b hb=>h1 b (by simp[hb])) ht⟩
 |.tup xs,_,_,h1,h=>by
  obtain⟨a,vs,rfl,ha,ht⟩:=h
  exact⟨a,vs,rfl,ha,Trees.reps h1 ht⟩
 |.fz xs,_,_,h1,h=>by
  obtain⟨a,vs,rfl,ha,ht⟩:=h
  exact⟨a,vs,rfl,ha,Trees.reps h1 ht⟩
theorem Trees.reps:∀{xs:List PV}{vs:List V}{F:List Addr},(∀a∈F,S a)->Trees K H xs vs F->Reps K H S xs vs
 |[],_,_,_,h=>h.1
 |x::xs,_,_,h1,h=>by
  obtain⟨v,r,G1,G2,rfl,h3,h4,hd,rfl⟩:=h
  exact⟨v,r,rfl,JB.rep (fun b hb=>h1 b (by simp[hb])) h3,Trees.reps (fun b hb=>h1 b (by simp[hb])) h4⟩
end
mutual
theorem JB.alive:∀{x:PV}{v:V}{F:List Addr},JB K H x v F->∀a∈F,∃vs:LvO,H a=some vs.1
 |.non,_,_,h=>by rw[h.2];simp
 |.bl _,_,_,h=>by rw[h.2];simp
 |.int _,_,_,h=>by rw[h.2];simp
 |.str _,_,_,h=>by rw[h.2];simp
 |.exc _,_,_,h=>by rw[h.2];simp
 |.exa _ _,_,_,h=>by rw[h.2];simp
 |.box p s xs,_,_,h=>by
  obtain⟨a,vs,u,G,rfl,ha,hb,ht,hn,rfl⟩:=h
  intro b hb'
  rcases Zmf.mp hb' with rfl|hb'
  ·exact⟨⟨u,hb.2.lv⟩,ha⟩
  ·exact Trees.alive ht b hb'
 |.lst xs,_,_,h=>by
  obtain⟨a,vs,G,rfl,ha,ht,hn,rfl⟩:=h
  intro b hb
  rcases Zmf.mp hb with rfl|hb
  ·exact⟨⟨.lst vs,trivial⟩,ha⟩
  ·exact Trees.alive ht b hb
 |.tup xs,_,_,h=>by
  obtain⟨a,vs,rfl,ha,ht⟩:=h
  exact Trees.alive ht
 |.fz xs,_,_,h=>by
  obtain⟨a,vs,rfl,ha,ht⟩:=h
  exact Trees.alive ht
theorem Trees.alive:∀{xs:List PV}{vs:List V}{F:List Addr},Trees K H xs vs F->∀a∈F,∃vs:LvO,H a=some vs.1
 |[],_,_,h=>by rw[h.2];simp
 |x::xs,_,_,h=>by
  obtain⟨v,r,G1,G2,rfl,h3,h4,hd,rfl⟩:=h
  intro b hb
  rcases Zma.mp hb with hb|hb
  ·exact JB.alive h3 b hb
  ·exact Trees.alive h4 b hb
end
mutual
theorem Rep.tree:∀{x:PV}{v:V},x.flat=true->Rep K H S x v->JB K H x v []
 |.non,_,_,h=>⟨h,rfl⟩
 |.bl _,_,_,h=>⟨h,rfl⟩
 |.int _,_,_,h=>⟨h,rfl⟩
 |.str _,_,_,h=>⟨h,rfl⟩
 |.exc _,_,_,h=>⟨h,rfl⟩
 |.exa _ _,_,_,h=>⟨h,rfl⟩
 |.box p s xs,_,f,_=>by simp[PV.flat] at f
 |.lst xs,_,f,_=>by simp[PV.flat] at f
 |.tup xs,_,f,h=>by
  obtain⟨a,vs,rfl,ha,ht⟩:=h
  exact⟨a,vs,rfl,ha,Reps.trees (by simpa[PV.flat] using f) ht⟩
 |.fz xs,_,f,h=>by
  obtain⟨a,vs,rfl,ha,ht⟩:=h
  exact⟨a,vs,rfl,ha,Reps.trees (by simpa[PV.flat] using f) ht⟩
theorem Reps.trees:∀{xs:List PV}{vs:List V},PV.flats xs=true->Reps K H S xs vs->Trees K H xs vs []
 |[],_,_,h=>⟨h,rfl⟩
 |x::xs,_,f,h=>by
  obtain⟨v,r,rfl,h3,h4⟩:=h
  simp only[PV.flats,Bool.and_eq_true] at f
  exact⟨v,r,[],[],rfl,Rep.tree f.1 h3,Reps.trees f.2 h4,by simp,rfl⟩
end
theorem Rep.any (h:Rep K H S x v):Rep K H (fun _=>True) x v:=Rep.mono (fun a vs _ r=>⟨r,trivial⟩) (fun a vs r=>r) h
theorem Reps.any (h:Reps K H S xs vs):Reps K H (fun _=>True) xs vs:=Reps.mono (fun a vs _ r=>⟨r,trivial⟩) (fun a vs r=>r) h
theorem Rep.flatS {x:PV}{v:V} (f:x.flat=true) (h:Rep K H S x v):Rep K H S' x v:=JB.rep (F:=[]) (by simp) (Rep.tree f h)
theorem Reps.length:∀{xs:List PV}{vs:List V},Reps K H S xs vs->vs.length=xs.length
 |[],_,h=>by rw[h];rfl
 |x::xs,_,h=>by
  obtain⟨v,r,rfl,h3,h4⟩:=h
  simp[Reps.length h4]
theorem Trees.length {xs:List PV}{vs:List V}{F:List Addr} (h:Trees K H xs vs F):vs.length=xs.length:=(Trees.reps (S:=fun _=>True) (fun _ _=>trivial) h).length
theorem Reps.get:∀{xs:List PV}{vs:List V}{i:Nat}{x:PV},Reps K H S xs vs->xs[i]?=some x->∃v,vs[i]?=some v/\Rep K H S x v
 |[],_,_,_,_,e=>by simp at e
 |y::xs,_,0,x,h,e=>by
  obtain⟨v,r,rfl,h3,h4⟩:=h
  simp at e;subst e
  exact⟨v,rfl,h3⟩
 |y::xs,_,i+1,x,h,e=>by
  obtain⟨v,r,rfl,h3,h4⟩:=h
  obtain⟨w,e1,e2⟩:=Reps.get (i:=i) h4 (by simpa using e)
  exact⟨w,by simpa using e1,e2⟩
theorem Reps.append:∀{xs ys:List PV}{vs ws:List V},Reps K H S xs vs->Reps K H S ys ws->Reps K H S (xs++ys) (vs++ws)
 |[],_,_,_,h,h'=>by rw[h];exact h'
 |x::xs,_,_,_,h,h'=>by
  obtain⟨v,r,rfl,h3,h4⟩:=h
  exact⟨v,r++_,rfl,h3,Reps.append h4 h'⟩
theorem Reps.one {x:PV}{v:V} (h:Rep K H S x v):Reps K H S [x] [v]:=⟨v,[],rfl,h,rfl⟩
theorem Reps.take:∀{xs:List PV}{vs:List V} (n:Nat),Reps K H S xs vs->Reps K H S (xs.take n) (vs.take n)
 |_,_,0,_=>by simp[Reps]
 |[],_,n+1,h=>by rw[h];rfl
 |y::xs,_,n+1,h=>by
  obtain⟨w,r,rfl,h3,h4⟩:=h
  exact⟨w,r.take n,rfl,h3,Reps.take n h4⟩
theorem Reps.drop:∀{xs:List PV}{vs:List V} (n:Nat),Reps K H S xs vs->Reps K H S (xs.drop n) (vs.drop n)
 |_,_,0,h=>h
 |[],_,n+1,h=>by rw[h];rfl
 |y::xs,_,n+1,h=>by
  obtain⟨w,r,rfl,h3,h4⟩:=h
  exact Reps.drop n h4
theorem Trees.append:∀{xs ys:List PV}{vs ws:List V}{F G:List Addr},Trees K H xs vs F->Trees K H ys ws G->(∀a∈F,a ∉ G)->Trees K H (xs++ys) (vs++ws) (F++G)
 |[],_,_,_,_,_,h,h',_=>by rw[h.1,h.2];exact h'
 |x::xs,_,_,_,_,_,h,h',hd=>by
  obtain⟨v,r,G1,G2,rfl,h3,h4,hd',rfl⟩:=h
  refine⟨v,r++_,G1,G2++_,rfl,h3,Trees.append h4 h' (fun a ha=>hd a (by simp[ha])),fun a ha z=>?_,by simp⟩
  rcases Zma.mp z with z|z
  ·exact hd' a ha z
  ·exact hd a (by simp[ha]) z
theorem Trees.one {x:PV}{v:V}{F:List Addr} (h:JB K H x v F):Trees K H [x] [v] F:=⟨v,[],F,[],rfl,h,⟨rfl,rfl⟩,by simp,by simp⟩
theorem PV.flats_all:∀{xs:List PV},PV.flats xs=true ↔ ∀x∈xs,x.flat=true
 |[]=>by simp[PV.flats]
 |x::xs=>by simp[PV.flats,PV.flats_all (xs:=xs)]
theorem PV.flats_ints (ns:List Int):PV.flats (ns.map PV.int)=true:=PV.flats_all.mpr (by simp[PV.flat])
theorem Rd.same (e:Z6 H H') (h:Rd H a u):Rd H' a u:=by
 rcases h with h|⟨o,h⟩
 ·exact .inl (e _ _ h)
 ·exact .inr ⟨o,e _ _ h⟩
theorem Z6.im (e:Z6 H H') {k:HO} (h:Im K H a k):Im K H' a k:=⟨e _ _ h.1,h.2⟩
theorem Im.sqT {vs:List V} (h:Im K H a (.tup vs)):SqT K H a vs:=.inl (.inl h.1)
theorem Rep.same (e:Z6 H H') (h:Rep K H S x v):Rep K H' S x v:=Rep.mono (fun a vs s r=>⟨r.same e,s⟩) (fun a vs r=>e.im r) h
theorem Reps.same (e:Z6 H H') (h:Reps K H S xs vs):Reps K H' S xs vs:=Reps.mono (fun a vs s r=>⟨r.same e,s⟩) (fun a vs r=>e.im r) h
theorem JB.same (e:Z6 H H') (h:JB K H x v F):JB K H' x v F:=JB.mono (fun a _ o q=>e a o q) (fun a vs r=>e.im r) h
theorem Trees.same (e:Z6 H H') (h:Trees K H xs vs F):Trees K H' xs vs F:=Trees.mono (fun a _ o q=>e a o q) (fun a vs r=>e.im r) h
theorem Im.putL {p:Addr}{us:LvO}{o:HO}{k:HO} (hp:H p=some us.1) (h:Im K H a k):Im K (upd H p o) a k:=
 ⟨by rw[Z1 (Zhj h.1 hp (Za9 us.2 h.2))];exact h.1,h.2⟩
theorem Im.put {p:Addr}{us:List V}{o:HO}{k:HO} (hp:H p=some (.lst us)) (h:Im K H a k):Im K (upd H p o) a k:=Im.putL (us:=⟨.lst us,trivial⟩) hp h
theorem SqT.put {p:Addr}{us:List V}{o:HO} (hp:H p=some (.lst us)) (h:Im K H a (.tup vs)):Im K (upd H p o) a (.tup vs):=Im.put hp h
theorem JB.putL {p:Addr}{us:LvO}{o:HO} (hp:H p=some us.1) (hS:p ∉ F) (h:JB K H x v F):JB K (upd H p o) x v F:=
 JB.mono (fun a ha o q=>by
  have hne:a≠p:=fun z=>hS (z▸ha)
  rw[Z1 hne];exact q) (fun a vs r=>Im.putL hp r) h
theorem Trees.putL {p:Addr}{us:LvO}{o:HO} (hp:H p=some us.1) (hS:p ∉ F) (h:Trees K H xs vs F):Trees K (upd H p o) xs vs F:=
 Trees.mono (fun a ha o q=>by
  have hne:a≠p:=fun z=>hS (z▸ha)
  rw[Z1 hne];exact q) (fun a vs r=>Im.putL hp r) h
theorem JB.put {p:Addr}{us:List V}{o:HO} (hp:H p=some (.lst us)) (hS:p ∉ F) (h:JB K H x v F):JB K (upd H p o) x v F:=JB.putL (us:=⟨.lst us,trivial⟩) hp hS h
theorem Trees.put {p:Addr}{us:List V}{o:HO} (hp:H p=some (.lst us)) (hS:p ∉ F) (h:Trees K H xs vs F):Trees K (upd H p o) xs vs F:=Trees.putL (us:=⟨.lst us,trivial⟩) hp hS h
end
inductive Md|U|P|S|T|O
 deriving DecidableEq
def NO (B:Addr->Prop) (F:Nat->List Addr) (R:List Addr) (a:Addr):Prop:=B a/\a ∉ R/\∀i,a ∉ F i
def VJ (K:W.Frag) (H:Hp) (S:Addr->Prop) (m:Md) (x:PV) (o:Option (Option V)) (G:List Addr):Prop:=match m with
 |.U=>G=[]
 |.P=>G=[]/\∃v,o=some (some v)/\x.flat=true/\Rep K H (fun _=>True) x v
 |.S=>G=[]/\∃v,o=some (some v)/\Rep K H S x v
 |.T=>∃a vs xs,o=some (some (.ref a))/\x=.lst xs/\H a=some (.lst vs)/\Reps K H S xs vs/\G=[a]
 |.O=>∃v,o=some (some v)/\JB K H x v G
structure Ag (K:PySem.W.Frag) (B:Addr->Prop) (H0 H:Hp) (σ:St) (Γ:List Md) (ρ:List PV) (F:Nat->List Addr) (R:List Addr):Prop where
 same:Z6 H0 H
 own:∀a,H0 a=none->B a
 young:∀i,∀a∈F i,H0 a=none
 youngR:∀a∈R,H0 a=none
 live:∀i,∀a∈F i,∃vs:LvO,H a=some vs.1
 liveR:∀a∈R,∃vs:LvO,H a=some vs.1
 disj:∀i j,i≠j->∀a∈F i,a ∉ F j
 disjR:∀i,∀a∈F i,a ∉ R
 lenS:σ.length=Γ.length
 lenR:ρ.length=Γ.length
 slot:∀i,VJ K H (NO B F R) (Γ.getD i .U) (ρ.getD i .non) σ[i]? (F i)
theorem VJ.mono {K:W.Frag}{H H':Hp}{S S':Addr->Prop}{m:Md}{x:PV}{o:Option (Option V)}{G:List Addr} (h:VJ K H S m x o G) (h1:∀a u,S a->Rd H a u->Rd H' a u/\S' a)
  (h2:∀a u,Im K H a u->Im K H' a u) (h3:∀a∈G,∀u,H a=some u->H' a=some u):VJ K H' S' m x o G:=by
 cases m with
 |U=>exact h
 |P =>
  obtain⟨e,v,h4,h5,h6⟩:=h
  exact⟨e,v,h4,h5,JB.rep (F:=[]) (by simp) (JB.mono (by simp) h2 (Rep.tree h5 h6))⟩
 |S =>
  obtain⟨e,v,h4,h5⟩:=h
  exact⟨e,v,h4,Rep.mono h1 h2 h5⟩
 |T =>
  obtain⟨a,vs,xs,h4,h5,h6,h7,rfl⟩:=h
  exact⟨a,vs,xs,h4,h5,h3 a (by simp) _ h6,Reps.mono h1 h2 h7,rfl⟩
 |O =>
  obtain⟨v,h4,h5⟩:=h
  exact⟨v,h4,JB.mono (fun a ha o q=>h3 a ha o q) h2 h5⟩
section
variable {K:W.Frag}{B:Addr->Prop}{H0 H H':Hp}{σ:St}{Γ:List Md}{ρ:List PV}{F:Nat->List Addr}{R R':List Addr}
theorem Ag.grow (A:Ag K B H0 H σ Γ ρ F R) (e:Z6 H H'):Ag K B H0 H' σ Γ ρ F R:=
 ⟨A.same.trans e,A.own,A.young,A.youngR,fun i a ha=>let ⟨vs,q⟩:=A.live i a ha;⟨vs,e _ _ q⟩,fun a ha=>let ⟨vs,q⟩:=A.liveR a ha;⟨vs,e _ _ q⟩,A.disj,A.disjR,A.lenS,A.lenR,
  fun i=>(A.slot i).mono (fun a vs s r=>⟨r.same e,s⟩) (fun a vs r=>e.im r) fun a ha vs q=>e _ _ q⟩
theorem Ag.less (A:Ag K B H0 H σ Γ ρ F R) (h:∀a∈R',a∈R):Ag K B H0 H σ Γ ρ F R':=
 ⟨A.same,A.own,A.young,fun a ha=>A.youngR a (h a ha),A.live,fun a ha=>A.liveR a (h a ha),A.disj,fun i a ha z=>A.disjR i a ha (h a z),A.lenS,A.lenR,
  fun i=>(A.slot i).mono (fun a vs s r=>⟨r,s.1,fun z=>s.2.1 (h a z),s.2.2⟩) (fun a vs r=>r) fun a ha vs q=>q⟩
theorem Ag.more {G:List Addr} (A:Ag K B H0 H σ Γ ρ F R) (e:Z6 H H') (hf:∀a∈G,H a=none) (hl:∀a∈G,∃vs:LvO,H' a=some vs.1):Ag K B H0 H' σ Γ ρ F (G++R):=by
 refine⟨A.same.trans e,A.own,A.young,fun a ha=>?_,fun i a ha=>let ⟨vs,q⟩:=A.live i a ha;⟨vs,e _ _ q⟩,fun a ha=>?_,A.disj,fun i a ha z=>?_,A.lenS,A.lenR,fun i=>?_⟩
 ·rcases Zma.mp ha with z|z
  ·exact A.same.free (hf a z)
  ·exact A.youngR a z
 ·rcases Zma.mp ha with z|z
  ·exact hl a z
  ·obtain⟨vs,q⟩:=A.liveR a z
   exact⟨vs,e _ _ q⟩
 ·rcases Zma.mp z with z|z
  ·obtain⟨vs,q⟩:=A.live i a ha
   rw[hf a z] at q;cases q
  ·exact A.disjR i a ha z
 ·refine(A.slot i).mono (fun a vs s r=>⟨r.same e,s.1,fun z=>?_,s.2.2⟩) (fun a vs r=>e.im r) fun a ha vs q=>e _ _ q
  rcases Zma.mp z with z|z
  ·have:=hf a z
   rcases r with r|⟨o,r⟩<;>(rw[this] at r;cases r)
  ·exact s.2.1 z
theorem Ag.fresh (A:Ag K B H0 H σ Γ ρ F R) {p:Addr} (hp:H p=none):p ∉ R/\(∀i,p ∉ F i)/\H0 p=none/\B p:=by
 refine⟨fun z=>?_,fun i z=>?_,A.same.free hp,A.own p (A.same.free hp)⟩
 ·obtain⟨vs,q⟩:=A.liveR p z
  rw[hp] at q;cases q
 ·obtain⟨vs,q⟩:=A.live i p z
  rw[hp] at q;cases q
theorem Ag.new {p:Addr}{xs:List V} (A:Ag K B H0 H σ Γ ρ F R) (hp:H p=none):Ag K B H0 (upd H p (.lst xs)) σ Γ ρ F (p::R):=
 A.more (G:=[p]) (Z6.new hp) (fun a ha=>by rw[List.mem_singleton.mp ha];exact hp) fun a ha=>⟨⟨.lst xs,trivial⟩,by rw[List.mem_singleton.mp ha,ZO]⟩
theorem Ag.getO {i:Nat} (A:Ag K B H0 H σ Γ ρ F R) (h:Γ[i]?=some .O):∃v,σ[i]?=some (some v)/\JB K H (ρ.getD i .non) v (F i):=by
 have:=A.slot i
 rw[ZlS,h] at this
 exact this
theorem Ag.getT {i:Nat} (A:Ag K B H0 H σ Γ ρ F R) (h:Γ[i]?=some .T):∃a vs xs,σ[i]?=some (some (.ref a))/\ρ.getD i .non=.lst xs/\H a=some (.lst vs)/\Reps K H (NO B F R) xs vs/\F i=[a]:=by
 have:=A.slot i
 rw[ZlS (l:=Γ),h] at this
 exact this
theorem Ag.getS {i:Nat} (A:Ag K B H0 H σ Γ ρ F R) (h:Γ[i]?=some .S):∃v,σ[i]?=some (some v)/\Rep K H (NO B F R) (ρ.getD i .non) v:=by
 have:=A.slot i
 rw[ZlS (l:=Γ),h] at this
 exact this.2
theorem Ag.getP {i:Nat} (A:Ag K B H0 H σ Γ ρ F R) (h:Γ[i]?=some .P):∃v,σ[i]?=some (some v)/\(ρ.getD i .non).flat=true/\Rep K H (fun _=>True) (ρ.getD i .non) v:=by
 have:=A.slot i
 rw[ZlS (l:=Γ),h] at this
 exact this.2
theorem Ag.getA {i:Nat}{m:Md} (A:Ag K B H0 H σ Γ ρ F R) (h:Γ[i]?=some m) (hm:m≠.U):∃v,σ[i]?=some (some v)/\Rep K H (fun _=>True) (ρ.getD i .non) v:=by
 cases m with
 |U=>exact absurd rfl hm
 |P=>obtain⟨v,h1,h2,h3⟩:=A.getP h;exact⟨v,h1,h3⟩
 |S=>obtain⟨v,h1,h2⟩:=A.getS h;exact⟨v,h1,h2.any⟩
 |T =>
  obtain⟨a,vs,xs,h1,h2,h3,h4,h5⟩:=A.getT h
  exact⟨_,h1,by rw[h2];exact⟨a,vs,rfl,.inl ⟨.inl h3,trivial⟩,h4.any⟩⟩
 |O=>obtain⟨v,h1,h2⟩:=A.getO h;exact⟨v,h1,h2.rep (fun _ _=>trivial)⟩
theorem Ag.lt {i:Nat}{m:Md} (A:Ag K B H0 H σ Γ ρ F R) (h:Γ[i]?=some m):i<Γ.length:=(Zms.mp h).1
noncomputable def Uz (F:Nat->List Addr) (i:Nat) (G:List Addr):Nat->List Addr:=fun j=>if j=i then G else F j
theorem Zs {i:Nat}{G:List Addr}:Uz F i G i=G:=if_pos rfl
theorem ZA {i j:Nat}{G:List Addr} (h:j≠i):Uz F i G j=F j:=if_neg h
theorem Ag.put {i:Nat}{m:Md}{x:PV}{v:V}{G:List Addr} (A:Ag K B H0 H σ Γ ρ F (G++R)) (hi:i<Γ.length) (hG:∀a∈G,a ∉ R) (hs:VJ K H (NO B (Uz F i G) R) m x (some (some v)) G) :
  Ag K B H0 H (σ.set i (some v)) (Γ.set i m) (ρ.set i x) (Uz F i G) R:=by
 refine⟨A.same,A.own,fun j a ha=>?_,fun a ha=>A.youngR a (ZlT _ ha),fun j a ha=>?_,fun a ha=>A.liveR a (ZlT _ ha),fun j k hjk a ha z=>?_,fun j a ha z=>?_,by simp[A.lenS],by simp[A.lenR],fun j=>?_⟩
 ·by_cases h:j=i
  ·subst h;rw[Zs] at ha;exact A.youngR a (Zmb _ ha)
  ·rw[ZA h] at ha;exact A.young j a ha
 ·by_cases h:j=i
  ·subst h;rw[Zs] at ha;exact A.liveR a (Zmb _ ha)
  ·rw[ZA h] at ha;exact A.live j a ha
 ·by_cases h:j=i
  ·subst h
   rw[Zs] at ha
   rw[ZA (Ne.symm hjk)] at z
   exact A.disjR k a z (Zmb _ ha)
  ·rw[ZA h] at ha
   by_cases h':k=i
   ·subst h'
    rw[Zs] at z
    exact A.disjR j a ha (Zmb _ z)
   ·rw[ZA h'] at z
    exact A.disj j k hjk a ha z
 ·by_cases h:j=i
  ·subst h;rw[Zs] at ha;exact hG a ha z
  ·rw[ZA h] at ha;exact A.disjR j a ha (ZlT _ z)
 ·by_cases h:j=i
  ·subst h
   rw[Zs,ZlS,ZlS,Zmo hi,Zmo (by rw[A.lenR];exact hi),Zmo (by rw[A.lenS];exact hi)]
   exact hs
  ·rw[ZA h,ZlS,ZlS,Zmt (Ne.symm h),Zmt (Ne.symm h),Zmt (Ne.symm h),<- ZlS,<- ZlS]
   refine(A.slot j).mono (fun a vs s r=>⟨r,s.1,fun z=>s.2.1 (ZlT _ z),fun k z=>?_⟩) (fun a vs r=>r) fun a ha vs q=>q
   by_cases h':k=i
   ·subst h';rw[Zs] at z;exact s.2.1 (Zmb _ z)
   ·rw[ZA h'] at z;exact s.2.2 k z
theorem Ag.turn {i:Nat}{m m':Md}{G:List Addr} (A:Ag K B H0 H σ Γ ρ F R) (h:Γ[i]?=some m) (hG:∀a∈G,a∈F i) (hs:VJ K H (NO B (Uz F i []) (G++R)) m' (ρ.getD i .non) σ[i]? []) :
  Ag K B H0 H σ (Γ.set i m') ρ (Uz F i []) (G++R):=by
 have hi:=A.lt h
 refine⟨A.same,A.own,fun j a ha=>?_,fun a ha=>?_,fun j a ha=>?_,fun a ha=>?_,fun j k hjk a ha z=>?_,fun j a ha z=>?_,by simp[A.lenS],by simp[A.lenR],fun j=>?_⟩
 ·by_cases h:j=i
  ·subst h;rw[Zs] at ha;simp at ha
  ·rw[ZA h] at ha;exact A.young j a ha
 ·rcases Zma.mp ha with z|z
  ·exact A.young i a (hG a z)
  ·exact A.youngR a z
 ·by_cases h:j=i
  ·subst h;rw[Zs] at ha;simp at ha
  ·rw[ZA h] at ha;exact A.live j a ha
 ·rcases Zma.mp ha with z|z
  ·exact A.live i a (hG a z)
  ·exact A.liveR a z
 ·by_cases h:j=i
  ·subst h;rw[Zs] at ha;simp at ha
  ·by_cases h':k=i
   ·subst h';rw[Zs] at z;simp at z
   ·rw[ZA h] at ha;rw[ZA h'] at z;exact A.disj j k hjk a ha z
 ·by_cases h:j=i
  ·subst h;rw[Zs] at ha;simp at ha
  ·rw[ZA h] at ha
   rcases Zma.mp z with z|z
   ·exact A.disj j i h a ha (hG a z)
   ·exact A.disjR j a ha z
 ·by_cases h:j=i
  ·subst h
   rw[Zs,ZlS (l:=Γ.set _ _),Zmo hi]
   exact hs
  ·rw[ZA h,ZlS (l:=Γ.set _ _),Zmt (Ne.symm h),<- ZlS]
   refine(A.slot j).mono (fun a vs s r=>⟨r,s.1,fun z=>?_,fun k z=>?_⟩) (fun a vs r=>r) fun a ha vs q=>q
   ·rcases Zma.mp z with z|z
    ·exact s.2.2 i (hG a z)
    ·exact s.2.1 z
   ·by_cases h':k=i
    ·subst h';rw[Zs] at z;simp at z
    ·rw[ZA h'] at z;exact s.2.2 k z
theorem Ag.move {i:Nat} (A:Ag K B H0 H σ Γ ρ F R) (h:Γ[i]?=some .O):Ag K B H0 H σ (Γ.set i .U) ρ (Uz F i []) (F i++R):=A.turn (G:=F i) h (fun a ha=>ha) rfl
end
noncomputable abbrev PX:=Str×PV
inductive Rr (α:Type) where
 |ok (a:α)|exc (e:PX)|bad
noncomputable def Rr.bind {α β:Type}:Rr α->(α->Rr β)->Rr β
 |.ok a,f=>f a
 |.exc e,_=>.exc e
 |.bad,_=>.bad
def Dn {α:Type} (r:Rr α) (ok:α->Prop) (ex:PX->Prop):Prop:=match r with
 |.ok a=>ok a
 |.exc e=>ex e
 |.bad=>False
theorem Dn.bind {α β:Type}{r:Rr α}{f:α->Rr β}{ok:β->Prop}{ex:PX->Prop} (h:Dn (r.bind f) ok ex):Dn r (fun a=>Dn (f a) ok ex) ex:=by
 cases r with
 |ok a=>exact h
 |exc e=>exact h
 |bad=>exact h
theorem Dn.imp {α:Type}{r:Rr α}{ok ok':α->Prop}{ex ex':PX->Prop} (h:Dn r ok ex) (h1:∀a,r=.ok a->ok a->ok' a) (h2:∀e,ex e->ex' e):Dn r ok' ex':=by
 cases r with
 |ok a=>exact h1 a rfl h
 |exc e=>exact h2 e h
 |bad=>exact h
@[simp] theorem Rr.bind_ok {α β:Type}{a:α}{f:α->Rr β}:(Rr.ok a).bind f=f a:=rfl
@[simp] theorem Rr.bind_exc {α β:Type}{e:PX}{f:α->Rr β}:(Rr.exc e:Rr α).bind f=.exc e:=rfl
@[simp] theorem Rr.bind_bad {α β:Type}{f:α->Rr β}:(Rr.bad:Rr α).bind f=.bad:=rfl
inductive Kd|P|F|T|Z|A|N|M
def Res (K:W.Frag) (B:Addr->Prop) (H0 H:Hp) (σ:St) (Γ':List Md) (ρ:List PV) (F:Nat->List Addr) (R:List Addr) (k:Kd) (x:PV) (v:V) (H':Hp):Prop:=
 ∃F',(∀i,∀a∈F' i,a∈F i)/\match k with
 |.P=>x.flat=true/\Rep K H' (fun _=>True) x v/\Ag K B H0 H' σ Γ' ρ F' R
 |.F=>∃G,JB K H' x v G/\(∀a∈G,a ∉ R/\(H a=none\/∃i,a∈F i))/\Ag K B H0 H' σ Γ' ρ F' (G++R)
 |.T=>∃a vs xs,x=.lst xs/\v=.ref a/\H' a=some (.lst vs)/\Reps K H' (NO B F' (a::R)) xs vs/\a ∉ R/\(H a=none\/∃i,a∈F i)/\Ag K B H0 H' σ Γ' ρ F' (a::R)
 |.Z=>Rep K H' (NO B F' R) x v/\Ag K B H0 H' σ Γ' ρ F' R
 |.A=>Rep K H' (fun _=>True) x v/\Ag K B H0 H' σ Γ' ρ F' R
 |.N=>False
 |.M=>False
def DE (K:W.Frag) (EX:PX->Hp->Prop) (Γ Γ':List Md) (k:Kd) (te:TE) (f:List PV->Rr PV):Prop:=
 ∀(B:Addr->Prop) (H0 H:Hp) (σ:St) (ρ:List PV) (F:Nat->List Addr) (R:List Addr) (Q:VK),Ag K B H0 H σ Γ ρ F R ->
  Dn (f ρ) (fun x=>∀v H',Z6 H H'->Res K B H0 H σ Γ' ρ F R k x v H'->Q v H') (fun e=>∀H',Z6 H0 H'->EX e H')->te σ H Q
def DT (K:W.Frag) (EX:PX->Hp->Prop) (Γ Γ':List Md) (tt:TT) (f:List PV->Rr Bool):Prop:=
 ∀(B:Addr->Prop) (H0 H:Hp) (σ:St) (ρ:List PV) (F:Nat->List Addr) (R:List Addr) (Q:Bool->Hp->Prop),Ag K B H0 H σ Γ ρ F R ->
  Dn (f ρ) (fun b=>∀H' F',Z6 H H'->(∀i,∀a∈F' i,a∈F i)->Ag K B H0 H' σ Γ' ρ F' R->Q b H') (fun e=>∀H',Z6 H0 H'->EX e H')->tt σ H Q
section
variable {K:W.Frag}{B:Addr->Prop}{EX:PX->Hp->Prop}{H0 H H':Hp}{σ:St}{Γ Γ' Γ1 Γ2:List Md}{ρ:List PV}{F F':Nat->List Addr}{R:List Addr}{k:Kd}{x:PV}{v:V}{te ta tb:TE}{f fa fb:List PV->Rr PV}
theorem Res.ag (h:Res K B H0 H σ Γ' ρ F R k x v H'):∃F',(∀i,∀a∈F' i,a∈F i)/\Rep K H' (fun _=>True) x v/\Ag K B H0 H' σ Γ' ρ F' R:=by
 obtain⟨F',hF,h⟩:=h
 refine⟨F',hF, ?_⟩
 cases k with
 |P=>exact⟨h.2.1,h.2.2⟩
 |F=>obtain⟨G,h1,h2,h3⟩:=h;exact⟨h1.rep fun _ _=>trivial,h3.less fun a ha=>ZlT _ ha⟩
 |T=>obtain⟨a,vs,xs,rfl,rfl,h1,h2,h3,h4,h5⟩:=h;exact⟨⟨a,vs,rfl,.inl ⟨.inl h1,trivial⟩,h2.any⟩,h5.less fun a ha=>Zm2 _ ha⟩
 |Z=>exact⟨h.1.any,h.2⟩
 |A=>exact h
 |N=>exact h.elim
 |M=>exact h.elim
theorem Res.toA (h:Res K B H0 H σ Γ' ρ F R k x v H'):Res K B H0 H σ Γ' ρ F R .A x v H':=let ⟨F',a,b,c⟩:=h.ag;⟨F',a,b,c⟩
theorem Res.PF (h:Res K B H0 H σ Γ' ρ F R .P x v H'):Res K B H0 H σ Γ' ρ F R .F x v H':=by
 obtain⟨F',hF,h1,h2,h3⟩:=h
 exact⟨F',hF,[],h2.tree h1,by simp,h3⟩
theorem DE.imp {k':Kd} (h:DE K EX Γ Γ' k te f) (hr:∀{B:Addr->Prop}{H0 H H':Hp}{σ:St}{ρ:List PV}{F:Nat->List Addr}{R:List Addr}{x:PV}{v:V},Res K B H0 H σ Γ' ρ F R k x v H'->Res K B H0 H σ Γ' ρ F R k' x v H'):DE K EX Γ Γ' k' te f:=
 fun B H0 H σ ρ F R Q A d=>h B H0 H σ ρ F R Q A (d.imp (fun x _ q v H' s r=>q v H' s (hr r)) fun e q=>q)
theorem DE.toA (h:DE K EX Γ Γ' k te f):DE K EX Γ Γ' .A te f:=h.imp Res.toA
theorem DE.PF (h:DE K EX Γ Γ' .P te f):DE K EX Γ Γ' .F te f:=h.imp Res.PF
noncomputable def grd (x:PV):Rr PV:=if x.flat=true then .ok x else .bad
theorem DE.grd (h:DE K EX Γ Γ' .A te f):DE K EX Γ Γ' .P te (fun ρ=>(f ρ).bind grd):=fun B H0 H σ ρ F R Q A d=>by
 refine h B H0 H σ ρ F R Q A (d.bind.imp (fun x _ q v H' s r=>?_) fun e q=>q)
 unfold L2.grd at q
 by_cases hx:x.flat=true
 ·rw[if_pos hx] at q
  obtain⟨F',h1,h2,h3⟩:=r
  exact q v H' s ⟨F',h1,hx,h2,h3⟩
 ·rw[if_neg hx] at q;exact q.elim
theorem ZgM {v:V} (hf:x.flat=true) (hr:∀H,Rep K H (fun _=>True) x v):DE K EX Γ Γ .P (tC v) (fun _=>.ok x):=fun B H0 H σ ρ F R Q A d =>
 d v H (Z6.refl H) ⟨F,fun _ _ h=>h,hf,hr H,A⟩
theorem Zd {i:Int}:DE K EX Γ Γ .P (tC (.int i)) (fun _=>.ok (.int i)):=ZgM rfl fun _=>rfl
theorem VD {b:Bool}:DE K EX Γ Γ .P (tC (.bl b)) (fun _=>.ok (.bl b)):=ZgM rfl fun _=>rfl
theorem Zei:DE K EX Γ Γ .P (tC .non) (fun _=>.ok .non):=ZgM rfl fun _=>rfl
theorem Zef {x:Str}:DE K EX Γ Γ .P (tC (.str x)) (fun _=>.ok (.str x)):=ZgM rfl fun _=>rfl
noncomputable def gv (i:Nat) (ρ:List PV):PV:=ρ.getD i .non
theorem Za {i:Nat}{m:Md} (h:Γ[i]?=some m) (hm:m≠.U):DE K EX Γ Γ .A (Zbl i) (fun ρ=>.ok (gv i ρ)):=fun B H0 H σ ρ F R Q A d=>by
 obtain⟨v,h1,h2⟩:=A.getA h hm
 exact⟨v,h1,d v H (Z6.refl H) ⟨F,fun _ _ h=>h,h2,A⟩⟩
theorem Zn {i:Nat} (h:Γ[i]?=some .P):DE K EX Γ Γ .P (Zbl i) (fun ρ=>.ok (gv i ρ)):=fun B H0 H σ ρ F R Q A d=>by
 obtain⟨v,h1,h2,h3⟩:=A.getP h
 exact⟨v,h1,d v H (Z6.refl H) ⟨F,fun _ _ h=>h,h2,h3,A⟩⟩
theorem Zc9 {i:Nat} (h:Γ[i]?=some .S):DE K EX Γ Γ .Z (Zbl i) (fun ρ=>.ok (gv i ρ)):=fun B H0 H σ ρ F R Q A d=>by
 obtain⟨v,h1,h2⟩:=A.getS h
 exact⟨v,h1,d v H (Z6.refl H) ⟨F,fun _ _ h=>h,h2,A⟩⟩
theorem UR {i:Nat}{F:Nat->List Addr}:∀j,∀a∈Uz F i [] j,a∈F j:=fun j a ha=>by
 by_cases h:j=i
 ·subst h;rw[Zs] at ha;simp at ha
 ·rw[ZA h] at ha;exact ha
theorem Vg {i:Nat} (h:Γ[i]?=some .O):DE K EX Γ (Γ.set i .U) .F (Zbl i) (fun ρ=>.ok (gv i ρ)):=fun B H0 H σ ρ F R Q A d=>by
 obtain⟨v,h1,h2⟩:=A.getO h
 exact⟨v,h1,d v H (Z6.refl H) ⟨Uz F i [],UR,F i,h2,fun a ha=>⟨A.disjR i a ha,.inr ⟨i,ha⟩⟩,A.move h⟩⟩
def OpP (K:W.Frag) (r:R2) (o:PV->PV->Rr PV):Prop:=∀{H:Hp}{x y:PV}{v w:V}{Q:VK},Rep K H (fun _=>True) x v->Rep K H (fun _=>True) y w ->
 (∃z,o x y=.ok z/\(z.flat=true->∀u,Rep K H (fun _=>True) z u->Q u H))->r v w H Q
theorem Dn.bind2 {α β γ:Type}{r:Rr α}{q:Rr β}{f:α->β->Rr γ}{ok:γ->Prop}{ex:PX->Prop} (h:Dn (r.bind fun a=>q.bind fun b=>f a b) ok ex):Dn r (fun a=>Dn q (fun b=>Dn (f a b) ok ex) ex) ex:=
 h.bind.imp (fun a _ h=>h.bind) fun e h=>h
theorem two {Q:V->V->Hp->Prop}{ok:PV->PV->Prop} (ha:DE K EX Γ Γ1 .A ta fa) (hb:DE K EX Γ1 Γ2 .A tb fb) (A:Ag K B H0 H σ Γ ρ F R)
  (d:Dn (fa ρ) (fun x=>Dn (fb ρ) (fun y=>ok x y) (fun e=>∀H',Z6 H0 H'->EX e H')) (fun e=>∀H',Z6 H0 H'->EX e H'))
  (hq:∀x y v w H' F',ok x y->Z6 H H'->(∀i,∀a∈F' i,a∈F i)->Rep K H' (fun _=>True) x v->Rep K H' (fun _=>True) y w->Ag K B H0 H' σ Γ2 ρ F' R->Q v w H') :
  ta σ H fun v H1=>tb σ H1 fun w H2=>Q v w H2:=by
 refine ha B H0 H σ ρ F R _ A (d.imp (fun x _ d v H1 s1 r1=>?_) fun e q=>q)
 obtain⟨F1,f1,p1,A1⟩:=r1
 refine hb B H0 H1 σ ρ F1 R _ A1 (d.imp (fun y _ q w H2 s2 r2=>?_) fun e q=>q)
 obtain⟨F2,f2,p2,A2⟩:=r2
 exact hq x y v w H2 F2 q (s1.trans s2) (fun i a h=>f1 i a (f2 i a h)) (p1.same s2) p2 A2
theorem ZdE {r:R2}{o:PV->PV->Rr PV} (hr:OpP K r o) (ho:∀x y z,o x y=.ok z->z.flat=true) (hx:∀x y e,o x y≠.exc e) (ha:DE K EX Γ Γ1 .A ta fa) (hb:DE K EX Γ1 Γ2 .A tb fb) :
  DE K EX Γ Γ2 .P (tOp r ta tb) (fun ρ=>(fa ρ).bind fun x=>(fb ρ).bind fun y=>o x y):=fun B H0 H σ ρ F R Q A d=>by
 refine two ha hb A d.bind2 fun x y v w H' F' d s hF p1 p2 A'=>?_
 cases e:o x y with
 |ok z=>rw[e] at d;exact hr p1 p2 ⟨z,e,fun hf u hu=>d u H' s ⟨F',hF,hf,hu,A'⟩⟩
 |exc q=>exact absurd e (hx x y q)
 |bad=>rw[e] at d;exact d.elim
def UnP (K:W.Frag) (r:V->Hp->VK->Prop) (o:PV->Rr PV):Prop:=∀{H:Hp}{x:PV}{v:V}{Q:VK},Rep K H (fun _=>True) x v->(∃z,o x=.ok z/\(z.flat=true->∀u,Rep K H (fun _=>True) z u->Q u H))->r v H Q
theorem Zhn {r:V->Hp->VK->Prop}{o:PV->Rr PV} (hr:UnP K r o) (hx:∀x e,o x≠.exc e) (ha:DE K EX Γ Γ1 .A ta fa):DE K EX Γ Γ1 .P (tUn r ta) (fun ρ=>(fa ρ).bind o):=fun B H0 H σ ρ F R Q A d=>by
 refine ha B H0 H σ ρ F R _ A (d.bind.imp (fun x _ d v H1 s1 r1=>?_) fun e q=>q)
 obtain⟨F1,f1,p1,A1⟩:=r1
 cases e:o x with
 |ok z=>rw[e] at d;exact hr p1 ⟨z,e,fun hf u hu=>d u H1 s1 ⟨F1,f1,hf,hu,A1⟩⟩
 |exc q=>exact absurd e (hx x q)
 |bad=>rw[e] at d;exact d.elim
noncomputable def oI (C:Int->Int->Bool) (g:Int->Int->PV) (x y:PV):Rr PV:=match x,y with
 |.int i,.int j=>if C i j=true then .ok (g i j) else .bad
 |_,_=>.bad
theorem Zcf {C:Int->Int->Bool}{g:Int->Int->PV}{i j:Int} (h:C i j=true):oI C g (.int i) (.int j)=.ok (g i j):=if_pos h
theorem Zif {C:Int->Int->Bool}{D:Int->Int->Prop}{g:Int->Int->PV}{g':Int->Int->V} (hC:∀i j,C i j=true->D i j) (hg:∀H i j,Rep K H (fun _=>True) (g i j) (g' i j)) (hf:∀i j,(g i j).flat=true):OpP K (rI D g') (oI C g):=by
 intro H x y v w Q rx ry ⟨z,e,q⟩
 cases x<;>cases y<;>first|(simp only[oI] at e;cases e;done)|skip
 rename_i i j
 simp only[oI] at e
 by_cases h:C i j=true
 ·rw[if_pos h] at e;cases e
  cases rx;cases ry
  exact⟨i,j,rfl,rfl,hC i j h,q (hf i j) _ (hg H i j)⟩
 ·rw[if_neg h] at e;cases e
theorem Zhi {g:Int->Int->PV}{g':Int->Int->V} (hg:∀H i j,Rep K H (fun _=>True) (g i j) (g' i j)) (hf:∀i j,(g i j).flat=true):OpP K (rI0 g') (oI (fun _ _=>true) g):=by
 intro H x y v w Q rx ry ⟨z,e,q⟩
 cases x<;>cases y<;>first|(simp only[oI] at e;cases e;done)|skip
 rename_i i j
 simp only[oI,if_true] at e
 cases e;cases rx;cases ry
 exact⟨i,j,rfl,rfl,q (hf i j) _ (hg H i j)⟩
theorem Za6 {C:Int->Int->Bool}{g:Int->Int->PV} (x y:PV) (e:PX):oI C g x y≠.exc e:=by
 cases x<;>cases y<;>first|(intro h;simp only[oI] at h;cases h;done)|skip
 intro h
 simp only[oI] at h
 split at h<;>cases h
theorem Zcg {C:Int->Int->Bool}{g:Int->Int->PV} (hf:∀i j,(g i j).flat=true) (x y z:PV) (h:oI C g x y=.ok z):z.flat=true:=by
 cases x<;>cases y<;>first|(simp only[oI] at h;cases h;done)|skip
 simp only[oI] at h
 split at h
 ·cases h;exact hf _ _
 ·cases h
end
mutual
noncomputable def PV.noX:PV->Bool
 |.exc _=>false
 |.exa _ _=>false
 |.box _ _ _=>false
 |.fz xs=>PV.noXs xs
 |.lst xs=>PV.noXs xs
 |.tup xs=>PV.noXs xs
 |.non=>true
 |.bl _=>true
 |.int _=>true
 |.str _=>true
noncomputable def PV.noXs:List PV->Bool
 |[]=>true
 |x::xs=>x.noX&&PV.noXs xs
end
theorem PV.noXs_ints:∀(ns:List Int),PV.noXs (ns.map PV.int)=true
 |[]=>rfl
 |n::ns=>by simp[PV.noXs,PV.noX,PV.noXs_ints ns]
mutual
noncomputable def PV.dat:PV->PyData
 |.non=>.none
 |.bl b=>.bool b
 |.int i=>.int i
 |.str x=>.str x
 |.exc _=>.none
 |.exa _ _=>.none
 |.box _ _ _=>.none
 |.fz xs=>.list (PV.dats xs)
 |.lst xs=>.list (PV.dats xs)
 |.tup xs=>.tuple (PV.dats xs)
noncomputable def PV.dats:List PV->List PyData
 |[]=>[]
 |x::xs=>x.dat::PV.dats xs
end
section
variable {X:Cx}{pins:List (Addr×Obj)}{σ:St}{H:Hp}{s:Shared}{S:Addr->Prop}
theorem JD {K:W.Frag}{a:Addr}{vs:List V} (h:(Rd H a (.lst vs)/\S a)\/KL K a vs):SqL K H a vs:=by
 rcases h with h|h
 ·exact .inl h.1
 ·exact .inr h
mutual
theorem Rep.reads (I:Inv X pins σ H s):∀{x:PV}{v:V}{u:Value},x.noX=true->Rep X.K H S x v->Jq v u->∃as,Reads s.heap u x.dat as
 |.non,_,_,_,h,r=>by cases h;cases r;exact⟨_,.none⟩
 |.bl _,_,_,_,h,r=>by cases h;cases r;exact⟨_,.bool _⟩
 |.int _,_,_,_,h,r=>by cases h;obtain⟨t,rfl⟩:=r;exact⟨_,.int _ _⟩
 |.str _,_,_,_,h,r=>by cases h;obtain⟨t,rfl⟩:=r;exact⟨_,.str _ _⟩
 |.exc _,_,_,z,_,_=>by simp[PV.noX] at z
 |.exa _ _,_,_,z,_,_=>by simp[PV.noX] at z
 |.box _ _ _,_,_,z,_,_=>by simp[PV.noX] at z
 |.fz xs,_,_,z,h,r=>by
  obtain⟨a,vs,rfl,⟨o,hn⟩,hr⟩:=h
  cases r
  obtain⟨its,rv,pl,_⟩:=I.list (JD (S:=fun _=>True) (.inl ⟨.inr ⟨o,hn.1⟩,trivial⟩))
  obtain⟨as,ra⟩:=Reps.reads I (by simpa[PV.noX] using z) hr rv
  obtain⟨o,ho,hc,n,hd⟩:=pl.isList
  exact⟨_,.list ho hc hd (by simpa using ra)⟩
 |.lst xs,_,_,z,h,r=>by
  obtain⟨a,vs,rfl,hn,hr⟩:=h
  cases r
  obtain⟨its,rv,pl,_⟩:=I.list (JD hn)
  obtain⟨as,ra⟩:=Reps.reads I (by simpa[PV.noX] using z) hr rv
  obtain⟨o,ho,hc,n,hd⟩:=pl.isList
  exact⟨_,.list ho hc hd (by simpa using ra)⟩
 |.tup xs,_,_,z,h,r=>by
  obtain⟨a,vs,rfl,hn,hr⟩:=h
  cases r
  obtain⟨its,rv,⟨o,ho,hc,n,hd⟩,_⟩:=I.tuple hn.sqT
  obtain⟨as,ra⟩:=Reps.reads I (by simpa[PV.noX] using z) hr rv
  exact⟨_,.tuple ho hc hd (by simpa using ra)⟩
theorem Reps.reads (I:Inv X pins σ H s):∀{xs:List PV}{vs:List V}{us:List Value},PV.noXs xs=true->Reps X.K H S xs vs->ZZ vs us->∃as,ReadsAll s.heap us (PV.dats xs) as
 |[],_,_,_,h,r=>by rw[h] at r;cases r;exact⟨_,.nil⟩
 |x::xs,_,_,z,h,r=>by
  simp only[PV.noXs,Bool.and_eq_true] at z
  obtain⟨v,vs,rfl,h1,h2⟩:=h
  cases r with
  |cons r1 r2 =>
   obtain⟨as,a1⟩:=Rep.reads I z.1 h1 r1
   obtain⟨bs,b1⟩:=Reps.reads I z.2 h2 r2
   exact⟨_,.cons a1 b1⟩
end
noncomputable def okD (x:PV):Bool:=x.noX&&x.dat.canLay0&&decide (x.dat.depth<=64)
noncomputable def Zhb (K:W.Frag) (g:Bool->Bool):R2:=fun x y H Q=>∃p q,Rep K H (fun _=>True) p x/\Rep K H (fun _=>True) q y/\okD p=true/\okD q=true/\Q (.bl (g (PyData.eqv p.dat q.dat))) H
theorem Je {K:W.Frag} (hu:X.A.units+64<cLine) (e:X.K=K:=by rfl):OpR X (compareOp .Eq) (Zhb K id):=by
 subst e
 intro pins s σ H x y v u Q I rx ry h
 obtain⟨p,q,h1,h2,h3,h4,hq⟩:=h
 simp only[okD,Bool.and_eq_true,decide_eq_true_eq] at h3 h4
 obtain⟨as,ra⟩:=h1.reads I h3.1.1 rx
 obtain⟨bs,rb⟩:=h2.reads I h4.1.1 ry
 exact SeqAt.rcAt_reads ra rb h3.1.2 h4.1.2 (by have:=Nat.min_le_left p.dat.depth q.dat.depth;omega) _ _ _ _ ⟨.bl (PyData.eqv p.dat q.dat),H,I,rfl,hq⟩
theorem Uk {K:W.Frag} (hu:X.A.units+64<cLine) (e:X.K=K:=by rfl):OpR X (compareOp .NotEq) (Zhb K (!·)):=by
 subst e
 intro pins s σ H x y v u Q I rx ry h
 obtain⟨p,q,h1,h2,h3,h4,hq⟩:=h
 simp only[okD,Bool.and_eq_true,decide_eq_true_eq] at h3 h4
 obtain⟨as,ra⟩:=h1.reads I h3.1.1 rx
 obtain⟨bs,rb⟩:=h2.reads I h4.1.1 ry
 exact SeqAt.rcNeAt_reads ra rb h3.1.2 h4.1.2 (by have:=Nat.min_le_left p.dat.depth q.dat.depth;omega) _ _ _ _ ⟨.bl (!PyData.eqv p.dat q.dat),H,I,rfl,hq⟩
end
noncomputable def QJ (g:Bool->Bool) (x y:PV):Rr PV:=if (okD x&&okD y)=true then .ok (.bl (g (PyData.eqv x.dat y.dat))) else .bad
def Zah (i j:Int):Prop:=i.natAbs<2^60000/\j.natAbs<2^60000
def Zai (i j:Int):Prop:=0<j/\j.natAbs<2^9000
noncomputable instance (i j:Int):Decidable (Zah i j):=by unfold Zah;infer_instance
noncomputable instance (i j:Int):Decidable (Zai i j):=by unfold Zai;infer_instance
noncomputable instance (i j:Int):Decidable (ZhU i j):=by unfold ZhU;infer_instance
theorem ZcI {i:Int}{n:Nat} (h:i.natAbs<2^n):Builtin.Int.intBits i<=n:=by
 unfold Builtin.Int.intBits
 split
 ·exact Zm9 _
 ·rename_i h0
  have:i.natAbs≠0:=by simpa using h0
  exact Nat.succ_le_of_lt ((Nat.log2_lt this).mpr h)
section
variable {X:Cx}
theorem US:OpR X (binaryOp .Mult) (rI Zah fun i j=>.int (i*j)):=opI fun _ _ _ _ _ _ _ hc q=>mul_int q (PyProof.Rows.mulOk_of_bits (ZcI hc.1) (ZcI hc.2) (by decide))
theorem VT:OpR X (binaryOp .FloorDiv) (rI Zai fun i j=>.int (i/j)):=opI fun i j _ _ _ _ _ hc q=>by
 refine floordiv_int (by have:=hc.1;omega) ?_ (.inl (PyProof.noPylong_of_log2 ?_))
 ·rw[Int.fdiv_eq_ediv_of_nonneg _ (by have:=hc.1;omega)];exact q
 ·have h0:j.natAbs≠0:=by have:=hc.1;omega
  exact(Nat.log2_lt h0).mpr hc.2
variable {K:W.Frag}{B:Addr->Prop}{EX:PX->Hp->Prop}{H0 H:Hp}{σ:St}{Γ Γ' Γ1 Γ2:List Md}{ρ:List PV}{F:Nat->List Addr}{R:List Addr}{k:Kd}{x:PV}{v:V}{ta tb:TE}{fa fb fc:List PV->Rr PV}
noncomputable abbrev ZhG:PV->PV->Rr PV:=oI (fun _ _=>true) fun i j=>.int (i+j)
noncomputable abbrev ZhE:PV->PV->Rr PV:=oI (fun _ _=>true) fun i j=>.int (i-j)
noncomputable abbrev Zhf:PV->PV->Rr PV:=oI (fun i j=>decide (Zah i j)) fun i j=>.int (i*j)
noncomputable abbrev Zhg:PV->PV->Rr PV:=oI (fun i j=>decide (Zai i j)) fun i j=>.int (i/j)
noncomputable abbrev ZhF:PV->PV->Rr PV:=oI (fun _ j=>decide (0<j)) fun i j=>.int (i%j)
noncomputable abbrev pLt:PV->PV->Rr PV:=oI (fun _ _=>true) fun i j=>.bl (decide (i<j))
noncomputable abbrev pLe:PV->PV->Rr PV:=oI (fun _ _=>true) fun i j=>.bl (decide (i<=j))
noncomputable abbrev pGt:PV->PV->Rr PV:=oI (fun _ _=>true) fun i j=>.bl (decide (j<i))
noncomputable abbrev pGe:PV->PV->Rr PV:=oI (fun _ _=>true) fun i j=>.bl (decide (j<=i))
theorem Zfd {D:Int->Int->Prop}{C:Int->Int->Bool}{g:Int->Int->PV}{g':Int->Int->V} (hC:∀i j,C i j=true->D i j) (hg:∀H i j,Rep K H (fun _=>True) (g i j) (g' i j)) (hf:∀i j,(g i j).flat=true)
  (ha:DE K EX Γ Γ1 .A ta fa) (hb:DE K EX Γ1 Γ2 .A tb fb):DE K EX Γ Γ2 .P (tOp (rI D g') ta tb) (fun ρ=>(fa ρ).bind fun x=>(fb ρ).bind fun y=>oI C g x y):=
 ZdE (Zif hC hg hf) (Zcg hf) Za6 ha hb
theorem UE {g:Int->Int->PV}{g':Int->Int->V} (hg:∀H i j,Rep K H (fun _=>True) (g i j) (g' i j)) (hf:∀i j,(g i j).flat=true)
  (ha:DE K EX Γ Γ1 .A ta fa) (hb:DE K EX Γ1 Γ2 .A tb fb):DE K EX Γ Γ2 .P (tOp (rI0 g') ta tb) (fun ρ=>(fa ρ).bind fun x=>(fb ρ).bind fun y=>oI (fun _ _=>true) g x y):=
 ZdE (Zhi hg hf) (Zcg hf) Za6 ha hb
theorem ZR (ha:DE K EX Γ Γ1 .A ta fa) (hb:DE K EX Γ1 Γ2 .A tb fb):DE K EX Γ Γ2 .P (tOp (rI0 fun i j=>.int (i+j)) ta tb) (fun ρ=>(fa ρ).bind fun x=>(fb ρ).bind fun y=>ZhG x y):=UE (fun _ _ _=>rfl) (fun _ _=>rfl) ha hb
theorem Vx (ha:DE K EX Γ Γ1 .A ta fa) (hb:DE K EX Γ1 Γ2 .A tb fb):DE K EX Γ Γ2 .P (tOp (rI0 fun i j=>.int (i-j)) ta tb) (fun ρ=>(fa ρ).bind fun x=>(fb ρ).bind fun y=>ZhE x y):=UE (fun _ _ _=>rfl) (fun _ _=>rfl) ha hb
theorem Zff (ha:DE K EX Γ Γ1 .A ta fa) (hb:DE K EX Γ1 Γ2 .A tb fb):DE K EX Γ Γ2 .P (tOp (rI0 fun i j=>.bl (decide (i<j))) ta tb) (fun ρ=>(fa ρ).bind fun x=>(fb ρ).bind fun y=>pLt x y):=UE (fun _ _ _=>rfl) (fun _ _=>rfl) ha hb
theorem Zg1 (ha:DE K EX Γ Γ1 .A ta fa) (hb:DE K EX Γ1 Γ2 .A tb fb):DE K EX Γ Γ2 .P (tOp (rI0 fun i j=>.bl (decide (i<=j))) ta tb) (fun ρ=>(fa ρ).bind fun x=>(fb ρ).bind fun y=>pLe x y):=UE (fun _ _ _=>rfl) (fun _ _=>rfl) ha hb
theorem VO (ha:DE K EX Γ Γ1 .A ta fa) (hb:DE K EX Γ1 Γ2 .A tb fb):DE K EX Γ Γ2 .P (tOp (rI0 fun i j=>.bl (decide (j<i))) ta tb) (fun ρ=>(fa ρ).bind fun x=>(fb ρ).bind fun y=>pGt x y):=UE (fun _ _ _=>rfl) (fun _ _=>rfl) ha hb
theorem Zhq (ha:DE K EX Γ Γ1 .A ta fa) (hb:DE K EX Γ1 Γ2 .A tb fb):DE K EX Γ Γ2 .P (tOp (rI0 fun i j=>.bl (decide (j<=i))) ta tb) (fun ρ=>(fa ρ).bind fun x=>(fb ρ).bind fun y=>pGe x y):=UE (fun _ _ _=>rfl) (fun _ _=>rfl) ha hb
theorem ZaG (ha:DE K EX Γ Γ1 .A ta fa) (hb:DE K EX Γ1 Γ2 .A tb fb):DE K EX Γ Γ2 .P (tOp (rI Zah fun i j=>.int (i*j)) ta tb) (fun ρ=>(fa ρ).bind fun x=>(fb ρ).bind fun y=>Zhf x y):=Zfd (fun _ _ h=>of_decide_eq_true h) (fun _ _ _=>rfl) (fun _ _=>rfl) ha hb
theorem ZaH (ha:DE K EX Γ Γ1 .A ta fa) (hb:DE K EX Γ1 Γ2 .A tb fb):DE K EX Γ Γ2 .P (tOp (rI Zai fun i j=>.int (i/j)) ta tb) (fun ρ=>(fa ρ).bind fun x=>(fb ρ).bind fun y=>Zhg x y):=Zfd (fun _ _ h=>of_decide_eq_true h) (fun _ _ _=>rfl) (fun _ _=>rfl) ha hb
theorem ZY (ha:DE K EX Γ Γ1 .A ta fa) (hb:DE K EX Γ1 Γ2 .A tb fb):DE K EX Γ Γ2 .P (tOp (rI (fun _ j=>0<j) fun i j=>.int (i%j)) ta tb) (fun ρ=>(fa ρ).bind fun x=>(fb ρ).bind fun y=>ZhF x y):=Zfd (fun _ _ h=>of_decide_eq_true h) (fun _ _ _=>rfl) (fun _ _=>rfl) ha hb
noncomputable def ZgI (x:PV):Rr PV:=match x with
 |.int i=>.ok (.int (-i))
 |_=>.bad
theorem Q7 (ha:DE K EX Γ Γ1 .A ta fa):DE K EX Γ Γ1 .P (tUn (rU fun i=>.int (-i)) ta) (fun ρ=>(fa ρ).bind ZgI):=by
 refine Zhn (fun {H x v Q} rx ⟨z,e,q⟩=>?_) (fun x e h=>?_) ha
 ·cases x<;>first|(simp only[ZgI] at e;cases e;done)|skip
  cases e;cases rx
  exact⟨_,rfl,q rfl _ rfl⟩
 ·cases x<;>(simp only[ZgI] at h;cases h)
theorem ZaV {g:Bool->Bool} (x y:PV) (e:PX):QJ g x y≠.exc e:=by
 unfold QJ
 intro h
 split at h<;>cases h
theorem ZbY {g:Bool->Bool} (x y z:PV) (h:QJ g x y=.ok z):z.flat=true:=by
 unfold QJ at h
 split at h
 ·cases h;rfl
 ·cases h
theorem ZQ {g:Bool->Bool} (ha:DE K EX Γ Γ1 .A ta fa) (hb:DE K EX Γ1 Γ2 .A tb fb):DE K EX Γ Γ2 .P (tOp (Zhb K g) ta tb) (fun ρ=>(fa ρ).bind fun x=>(fb ρ).bind fun y=>QJ g x y):=by
 refine ZdE (fun {H x y v w Q} rx ry ⟨z,e,q⟩=>?_) ZbY ZaV ha hb
 unfold QJ at e
 by_cases h:(okD x&&okD y)=true
 ·rw[if_pos h] at e;cases e
  rw[Bool.and_eq_true] at h
  exact⟨x,y,rx,ry,h.1,h.2,q rfl _ rfl⟩
 ·rw[if_neg h] at e;cases e
noncomputable def ZgJ (g:Bool->Bool) (x:PV):Rr PV:=match x with
 |.non=>.ok (.bl (g true))
 |_=>.ok (.bl (g false))
theorem ZbD {x:PV}{v:V}{S:Addr->Prop} (h:Rep K H S x v):decide (v=.non)=match x with|.non=>true|_=>false:=by
 cases x<;>first|(cases h;rfl)|(obtain⟨a,vs,rfl,_⟩:=h;rfl)|(obtain⟨a,vs,c,rfl,_⟩:=h;rfl)|(obtain⟨a,o,c,d,fs,rfl,_⟩:=h;rfl)
theorem Zg2 (ha:DE K EX Γ Γ1 .A ta fa):DE K EX Γ Γ1 .P (tOp (fun x y H Q=>y=.non/\Q (.bl (decide (x=.non))) H) ta (tC .non)) (fun ρ=>(fa ρ).bind (ZgJ id)):=fun B H0 H σ ρ F R Q A d=>by
 refine ha B H0 H σ ρ F R _ A (d.bind.imp (fun x _ d v H1 s1 r1=>?_) fun e q=>q)
 obtain⟨F1,f1,p1,A1⟩:=r1
 have e:=ZbD p1
 refine⟨rfl, ?_⟩
 rw[e]
 cases x<;>exact d _ H1 s1 ⟨F1,f1,rfl,rfl,A1⟩
theorem Zfe (ha:DE K EX Γ Γ1 .A ta fa):DE K EX Γ Γ1 .P (tOp (fun x y H Q=>y=.non/\Q (.bl (!decide (x=.non))) H) ta (tC .non)) (fun ρ=>(fa ρ).bind (ZgJ (!·))):=fun B H0 H σ ρ F R Q A d=>by
 refine ha B H0 H σ ρ F R _ A (d.bind.imp (fun x _ d v H1 s1 r1=>?_) fun e q=>q)
 obtain⟨F1,f1,p1,A1⟩:=r1
 have e:=ZbD p1
 refine⟨rfl, ?_⟩
 rw[e]
 cases x<;>exact d _ H1 s1 ⟨F1,f1,rfl,rfl,A1⟩
noncomputable def asB (x:PV):Rr Bool:=match x with
 |.bl b=>.ok b
 |_=>.bad
theorem Dn.asB {x:PV}{ok:Bool->Prop}{ex:PX->Prop} (d:Dn (asB x) ok ex):∃b,x=.bl b/\ok b:=by
 cases x with
 |bl b=>exact⟨b,rfl,d⟩
 |_=>exact d.elim
theorem Zeh (ha:DE K EX Γ Γ1 .A ta fa):DE K EX Γ Γ1 .P (Zf4 ta) (fun ρ=>(fa ρ).bind fun x=>(asB x).bind fun b=>.ok (.bl (!b))):=fun B H0 H σ ρ F R Q A d=>by
 refine ha B H0 H σ ρ F R _ A (d.bind.imp (fun x _ d v H1 s1 r1=>?_) fun e q=>q)
 obtain⟨b,rfl,d⟩:=d.bind.asB
 obtain⟨F1,f1,p1,A1⟩:=r1
 cases p1
 exact⟨b,rfl,d _ H1 s1 ⟨F1,f1,rfl,rfl,A1⟩⟩
theorem Res.shift {H1:Hp}{F1:Nat->List Addr}{k:Kd}{Γ2:List Md}{y:PV}{w:V}{H2:Hp} (s1:Z6 H H1) (f1:∀i,∀a∈F1 i,a∈F i) (h:Res K B H0 H1 σ Γ2 ρ F1 R k y w H2):Res K B H0 H σ Γ2 ρ F R k y w H2:=by
 obtain⟨F2,f2,h⟩:=h
 refine⟨F2,fun i a ha=>f1 i a (f2 i a ha), ?_⟩
 have org:∀a,(H1 a=none\/∃i,a∈F1 i)->(H a=none\/∃i,a∈F i):=fun a h=>h.elim (fun z=>.inl (s1.free z)) fun⟨i,z⟩=>.inr ⟨i,f1 i a z⟩
 cases k with
 |P=>exact h
 |F=>obtain⟨G,h1,h2,h3⟩:=h;exact⟨G,h1,fun a ha=>⟨(h2 a ha).1,org a (h2 a ha).2⟩,h3⟩
 |T=>obtain⟨a,vs,xs,h1,h2,h3,h4,h5,h6,h7⟩:=h;exact⟨a,vs,xs,h1,h2,h3,h4,h5,org a h6,h7⟩
 |Z=>exact h
 |A=>exact h
 |N=>exact h.elim
 |M=>exact h.elim
theorem UF (ha:DE K EX Γ Γ .A ta fa) (hb:DE K EX Γ Γ .P tb fb):DE K EX Γ Γ .P (Zf8 ta tb) (fun ρ=>(fa ρ).bind fun x=>(asB x).bind fun b=>if b=true then fb ρ else .ok (.bl false)):=fun B H0 H σ ρ F R Q A d=>by
 refine ha B H0 H σ ρ F R _ A (d.bind.imp (fun x _ d v H1 s1 r1=>?_) fun e q=>q)
 obtain⟨b,rfl,d⟩:=d.bind.asB
 obtain⟨F1,f1,p1,A1⟩:=r1
 cases p1
 refine⟨b,rfl, ?_⟩
 cases b with
 |true=>exact hb B H0 H1 σ ρ F1 R _ A1 (d.imp (fun y _ q w H2 s2 r2=>q w H2 (s1.trans s2) (r2.shift s1 f1)) fun e q=>q)
 |false=>exact d _ H1 s1 ⟨F1,f1,rfl,rfl,A1⟩
theorem Zho (ha:DE K EX Γ Γ .A ta fa) (hb:DE K EX Γ Γ .P tb fb):DE K EX Γ Γ .P (Zh1 ta tb) (fun ρ=>(fa ρ).bind fun x=>(asB x).bind fun b=>if b=true then .ok (.bl true) else fb ρ):=fun B H0 H σ ρ F R Q A d=>by
 refine ha B H0 H σ ρ F R _ A (d.bind.imp (fun x _ d v H1 s1 r1=>?_) fun e q=>q)
 obtain⟨b,rfl,d⟩:=d.bind.asB
 obtain⟨F1,f1,p1,A1⟩:=r1
 cases p1
 refine⟨b,rfl, ?_⟩
 cases b with
 |false=>exact hb B H0 H1 σ ρ F1 R _ A1 (d.imp (fun y _ q w H2 s2 r2=>q w H2 (s1.trans s2) (r2.shift s1 f1)) fun e q=>q)
 |true=>exact d _ H1 s1 ⟨F1,f1,rfl,rfl,A1⟩
theorem Zp (ha:DE K EX Γ Γ' .A ta fa):DT K EX Γ Γ' (Zes ta) (fun ρ=>(fa ρ).bind asB):=fun B H0 H σ ρ F R Q A d=>by
 refine ha B H0 H σ ρ F R _ A (d.bind.imp (fun x _ d v H1 s1 r1=>?_) fun e q=>q)
 obtain⟨b,rfl,d⟩:=d.asB
 obtain⟨F1,f1,p1,A1⟩:=r1
 cases p1
 exact⟨b,rfl,d H1 F1 s1 f1 A1⟩
theorem Zbo (ha:DE K EX Γ Γ' .A ta fa):DT K EX Γ Γ' (tB ta) (fun ρ=>(fa ρ).bind asB):=Zp ha
theorem Ut {c d:TT}{fc fd:List PV->Rr Bool} (hc:DT K EX Γ Γ c fc) (hd:DT K EX Γ Γ d fd):DT K EX Γ Γ (Zh7 c d) (fun ρ=>(fc ρ).bind fun b=>if b=true then fd ρ else .ok false):=fun B H0 H σ ρ F R Q A dn=>by
 refine hc B H0 H σ ρ F R _ A (dn.bind.imp (fun b _ dn H1 F1 s1 f1 A1=>?_) fun e q=>q)
 cases b with
 |true=>exact hd B H0 H1 σ ρ F1 R _ A1 (dn.imp (fun y _ q H2 F2 s2 f2 A2=>q H2 F2 (s1.trans s2) (fun i a h=>f1 i a (f2 i a h)) A2) fun e q=>q)
 |false=>exact dn H1 F1 s1 f1 A1
theorem VC {c d:TT}{fc fd:List PV->Rr Bool} (hc:DT K EX Γ Γ c fc) (hd:DT K EX Γ Γ d fd):DT K EX Γ Γ (tOr c d) (fun ρ=>(fc ρ).bind fun b=>if b=true then .ok true else fd ρ):=fun B H0 H σ ρ F R Q A dn=>by
 refine hc B H0 H σ ρ F R _ A (dn.bind.imp (fun b _ dn H1 F1 s1 f1 A1=>?_) fun e q=>q)
 cases b with
 |false=>exact hd B H0 H1 σ ρ F1 R _ A1 (dn.imp (fun y _ q H2 F2 s2 f2 A2=>q H2 F2 (s1.trans s2) (fun i a h=>f1 i a (f2 i a h)) A2) fun e q=>q)
 |true=>exact dn H1 F1 s1 f1 A1
theorem J8 {c:TT}{fc:List PV->Rr Bool} (hc:DT K EX Γ Γ' c fc):DT K EX Γ Γ' (Zh2 c) (fun ρ=>(fc ρ).bind fun b=>.ok (!b)):=fun B H0 H σ ρ F R Q A dn =>
 hc B H0 H σ ρ F R _ A (dn.bind.imp (fun b _ dn H1 F1 s1 f1 A1=>dn H1 F1 s1 f1 A1) fun e q=>q)
theorem Zhp {c:TT}{fc:List PV->Rr Bool} (hc:DT K EX Γ Γ c fc) (ha:DE K EX Γ Γ' k ta fa) (hb:DE K EX Γ Γ' k tb fb):DE K EX Γ Γ' k (tIf c ta tb) (fun ρ=>(fc ρ).bind fun b=>if b=true then fa ρ else fb ρ):=fun B H0 H σ ρ F R Q A dn=>by
 refine hc B H0 H σ ρ F R _ A (dn.bind.imp (fun b _ dn H1 F1 s1 f1 A1=>?_) fun e q=>q)
 cases b with
 |true=>exact ha B H0 H1 σ ρ F1 R _ A1 (dn.imp (fun y _ q w H2 s2 r2=>q w H2 (s1.trans s2) (r2.shift s1 f1)) fun e q=>q)
 |false=>exact hb B H0 H1 σ ρ F1 R _ A1 (dn.imp (fun y _ q w H2 s2 r2=>q w H2 (s1.trans s2) (r2.shift s1 f1)) fun e q=>q)
end
def DAA (K:W.Frag) (EX:PX->Hp->Prop) (Γ Γ':List Md) (ta:TA) (f:List PV->Rr (List PV)):Prop:=
 ∀(B:Addr->Prop) (H0 H:Hp) (σ:St) (ρ:List PV) (F:Nat->List Addr) (R:List Addr) (Q:List V->Hp->Prop),Ag K B H0 H σ Γ ρ F R ->
  Dn (f ρ) (fun xs=>∀vs H' F',Z6 H H'->(∀i,∀a∈F' i,a∈F i)->Reps K H' (fun _=>True) xs vs->Ag K B H0 H' σ Γ' ρ F' R->Q vs H') (fun e=>∀H',Z6 H0 H'->EX e H')->ta σ H Q
def DAF (K:W.Frag) (EX:PX->Hp->Prop) (Γ Γ':List Md) (ta:TA) (f:List PV->Rr (List PV)):Prop:=
 ∀(B:Addr->Prop) (H0 H:Hp) (σ:St) (ρ:List PV) (F:Nat->List Addr) (R:List Addr) (Q:List V->Hp->Prop),Ag K B H0 H σ Γ ρ F R ->
  Dn (f ρ) (fun xs=>∀vs H' F' G,Z6 H H'->(∀i,∀a∈F' i,a∈F i)->Trees K H' xs vs G->(∀a∈G,a ∉ R/\(H a=none\/∃i,a∈F i))->Ag K B H0 H' σ Γ' ρ F' (G++R)->Q vs H') (fun e=>∀H',Z6 H0 H'->EX e H')->ta σ H Q
section
variable {K:W.Frag}{B:Addr->Prop}{EX:PX->Hp->Prop}{H0 H H':Hp}{σ:St}{Γ Γ' Γ1 Γ2:List Md}{ρ:List PV}{F F':Nat->List Addr}{R:List Addr}{x:PV}{v:V}{te tb:TE}{ta:TA}{f fb:List PV->Rr PV}{fa:List PV->Rr (List PV)}
theorem Zg:DAA K EX Γ Γ Zet (fun _=>.ok []):=fun B H0 H σ ρ F R Q A d=>d [] H F (Z6.refl H) (fun _ _ h=>h) rfl A
theorem Ze (he:DE K EX Γ Γ1 .A te f) (ha:DAA K EX Γ1 Γ2 ta fa):DAA K EX Γ Γ2 (UI te ta) (fun ρ=>(f ρ).bind fun x=>(fa ρ).bind fun xs=>.ok (x::xs)):=fun B H0 H σ ρ F R Q A d=>by
 refine he B H0 H σ ρ F R _ A (d.bind.imp (fun x _ d v H1 s1 r1=>?_) fun e q=>q)
 obtain⟨F1,f1,p1,A1⟩:=r1
 refine ha B H0 H1 σ ρ F1 R _ A1 (d.bind.imp (fun xs _ d vs H2 F2 s2 f2 p2 A2=>?_) fun e q=>q)
 exact d (v::vs) H2 F2 (s1.trans s2) (fun i a h=>f1 i a (f2 i a h)) ⟨v,vs,rfl,p1.same s2,p2⟩ A2
theorem J4:DAF K EX Γ Γ Zet (fun _=>.ok []):=fun B H0 H σ ρ F R Q A d=>d [] H F [] (Z6.refl H) (fun _ _ h=>h) ⟨rfl,rfl⟩ (by simp) A
theorem Jp (he:DE K EX Γ Γ1 .F te f) (ha:DAF K EX Γ1 Γ2 ta fa):DAF K EX Γ Γ2 (UI te ta) (fun ρ=>(f ρ).bind fun x=>(fa ρ).bind fun xs=>.ok (x::xs)):=fun B H0 H σ ρ F R Q A d=>by
 refine he B H0 H σ ρ F R _ A (d.bind.imp (fun x _ d v H1 s1 r1=>?_) fun e q=>q)
 obtain⟨F1,f1,G1,p1,o1,A1⟩:=r1
 refine ha B H0 H1 σ ρ F1 (G1++R) _ A1 (d.bind.imp (fun xs _ d vs H2 F2 G2 s2 f2 p2 o2 A2=>?_) fun e q=>q)
 refine d (v::vs) H2 F2 (G1++G2) (s1.trans s2) (fun i a h=>f1 i a (f2 i a h)) ⟨v,vs,G1,G2,rfl,p1.same s2,p2,fun a ha z=>(o2 a z).1 (Zmb _ ha),rfl⟩ (fun a ha=>?_) (A2.less fun a ha=>?_)
 ·rcases Zma.mp ha with z|z
  ·exact o1 a z
  ·obtain⟨o3,o4⟩:=o2 a z
   exact⟨fun q=>o3 (ZlT _ q),o4.elim (fun q=>.inl (s1.free q)) fun⟨i,q⟩=>.inr ⟨i,f1 i a q⟩⟩
 ·simp only[Zma] at ha ⊢
  rcases ha with (z|z)|z
  ·exact .inr (.inl z)
  ·exact .inl z
  ·exact .inr (.inr z)
noncomputable def mkT (xs:List PV):Rr PV:=if xs.length<=1000 then .ok (.tup xs) else .bad
noncomputable def mkL (xs:List PV):Rr PV:=if xs.length<=1000 then .ok (.lst xs) else .bad
theorem Dn.mkT {xs:List PV}{ok:PV->Prop}{ex:PX->Prop} (d:Dn (mkT xs) ok ex):xs.length<=1000/\ok (.tup xs):=by
 unfold L2.mkT at d
 by_cases h:xs.length<=1000
 ·rw[if_pos h] at d;exact⟨h,d⟩
 ·rw[if_neg h] at d;exact d.elim
theorem Dn.mkL {xs:List PV}{ok:PV->Prop}{ex:PX->Prop} (d:Dn (mkL xs) ok ex):xs.length<=1000/\ok (.lst xs):=by
 unfold L2.mkL at d
 by_cases h:xs.length<=1000
 ·rw[if_pos h] at d;exact⟨h,d⟩
 ·rw[if_neg h] at d;exact d.elim
theorem ZcA (ha:DAF K EX Γ Γ' ta fa):DE K EX Γ Γ' .F (ZgV ta) (fun ρ=>(fa ρ).bind mkT):=fun B H0 H σ ρ F R Q A d=>by
 refine ha B H0 H σ ρ F R _ A (d.bind.imp (fun xs _ d vs H1 F1 G s1 f1 p1 o1 A1=>?_) fun e q=>q)
 obtain⟨hl,d⟩:=d.mkT
 refine⟨by rw[p1.length];exact VV hl,fun p hp=>?_⟩
 have e:Z6 H1 (upd H1 p (.tup vs)):=Z6.new hp
 exact d _ _ (s1.trans e) ⟨F1,f1,G,⟨p,vs,rfl,⟨ZO,trivial⟩,p1.same e⟩,o1,A1.grow e⟩
theorem Zfc (ha:DAA K EX Γ Γ' ta fa):DE K EX Γ Γ' .A (ZgV ta) (fun ρ=>(fa ρ).bind mkT):=fun B H0 H σ ρ F R Q A d=>by
 refine ha B H0 H σ ρ F R _ A (d.bind.imp (fun xs _ d vs H1 F1 s1 f1 p1 A1=>?_) fun e q=>q)
 obtain⟨hl,d⟩:=d.mkT
 refine⟨by rw[p1.length];exact VV hl,fun p hp=>?_⟩
 have e:Z6 H1 (upd H1 p (.tup vs)):=Z6.new hp
 exact d _ _ (s1.trans e) ⟨F1,f1,⟨p,vs,rfl,⟨ZO,trivial⟩,p1.same e⟩,A1.grow e⟩
theorem Res.newF {H1:Hp}{F1:Nat->List Addr}{G:List Addr}{xs:List PV}{vs:List V}{p:Addr} (s1:Z6 H H1) (f1:∀i,∀a∈F1 i,a∈F i) (p1:Trees K H1 xs vs G) (o1:∀a∈G,a ∉ R/\(H a=none\/∃i,a∈F i)) (A1:Ag K B H0 H1 σ Γ' ρ F1 (G++R)) (hp:H1 p=none) :
  Res K B H0 H σ Γ' ρ F R .F (.lst xs) (.ref p) (upd H1 p (.lst vs)):=by
 have e:Z6 H1 (upd H1 p (.lst vs)):=Z6.new hp
 have hf:=A1.fresh hp
 refine⟨F1,f1,p::G,⟨p,vs,G,rfl,ZO,p1.same e,fun z=>hf.1 (Zmb _ z),rfl⟩,fun a ha=>?_,A1.new hp⟩
 rcases Zmf.mp ha with rfl|z
 ·exact⟨fun z=>hf.1 (ZlT _ z),.inl (s1.free hp)⟩
 ·exact o1 a z
theorem Res.newP {H1:Hp}{F1:Nat->List Addr}{xs:List PV}{vs:List V}{p:Addr}{S:Addr->Prop} (s1:Z6 H H1) (f1:∀i,∀a∈F1 i,a∈F i) (p1:Reps K H1 S xs vs) (hx:PV.flats xs=true) (A1:Ag K B H0 H1 σ Γ' ρ F1 R) (hp:H1 p=none) :
  Res K B H0 H σ Γ' ρ F R .F (.lst xs) (.ref p) (upd H1 p (.lst vs)):=Res.newF (G:=[]) s1 f1 (p1.trees hx) (by simp) A1 hp
theorem JH (ha:DAF K EX Γ Γ' ta fa):DE K EX Γ Γ' .F (ZgX ta) (fun ρ=>(fa ρ).bind mkL):=fun B H0 H σ ρ F R Q A d=>by
 refine ha B H0 H σ ρ F R _ A (d.bind.imp (fun xs _ d vs H1 F1 G s1 f1 p1 o1 A1=>?_) fun e q=>q)
 obtain⟨hl,d⟩:=d.mkL
 refine⟨by rw[p1.length];exact VV hl,fun p hp=>d _ _ (s1.trans (Z6.new hp)) (Res.newF s1 f1 p1 o1 A1 hp)⟩
noncomputable def pIx (x y:PV):Rr PV:=match x,y with
 |.lst xs,.int i=>match atI xs i with
  |some z=>.ok z
  |none=>.bad
 |.tup xs,.int i=>match atI xs i with
  |some z=>.ok z
  |none=>.bad
 |_,_=>.bad
theorem ZbC {S:Addr->Prop}{xs:List PV}{vs:List V}{i:Int}{z:PV} (h:Reps K H S xs vs) (e:atI xs i=some z):∃u,atI vs i=some u/\Rep K H S z u:=by
 unfold atI at e ⊢
 rw[h.length]
 cases q:ixN xs.length i with
 |none=>rw[q] at e;cases e
 |some j =>
  rw[q] at e
  obtain⟨u,e1,e2⟩:=h.get e
  exact⟨u,e1,e2⟩
theorem ZfB {S:Addr->Prop}{x y z:PV}{v w:V}{Q:VK} (hx:Rep K H S x v) (hy:Rep K H (fun _=>True) y w) (e:pIx x y=.ok z) (q:∀u,Rep K H S z u->Q u H):rIx K v w H Q:=by
 cases x<;>cases y<;>first|(simp only[pIx] at e;cases e;done)|skip
 ·rename_i xs i
  obtain⟨a,vs,rfl,hn,hr⟩:=hx
  cases hy
  simp only[pIx] at e
  cases e1:atI xs i with
  |none=>rw[e1] at e;cases e
  |some z' =>
   rw[e1] at e;cases e
   obtain⟨u,e2,e3⟩:=ZbC hr e1
   exact .inl ⟨a,vs,i,u,rfl,rfl,JD hn,e2,q u e3⟩
 ·rename_i xs i
  obtain⟨a,vs,rfl,hn,hr⟩:=hx
  cases hy
  simp only[pIx] at e
  cases e1:atI xs i with
  |none=>rw[e1] at e;cases e
  |some z' =>
   rw[e1] at e;cases e
   obtain⟨u,e2,e3⟩:=ZbC hr e1
   exact .inr (.inl ⟨a,vs,i,u,rfl,rfl,hn.sqT,e2,q u e3⟩)
theorem ZbW (x y:PV) (e:PX):pIx x y≠.exc e:=by
 cases x<;>cases y<;>first|(intro h;simp only[pIx] at h;cases h;done)|skip
 all_goals
  intro h
  simp only[pIx] at h
  split at h<;>cases h
theorem Dn.pIx {x y:PV}{ok:PV->Prop}{ex:PX->Prop} (d:Dn (pIx x y) ok ex):∃z,pIx x y=.ok z/\ok z:=by
 cases e:L2.pIx x y with
 |ok z=>rw[e] at d;exact⟨z,rfl,d⟩
 |exc q=>exact absurd e (ZbW x y q)
 |bad=>rw[e] at d;exact d.elim
theorem Zv {te ta':TE}{fa':List PV->Rr PV} (ha:DE K EX Γ Γ1 .A ta' fa') (hb:DE K EX Γ1 Γ2 .A tb fb):DE K EX Γ Γ2 .A (tOp (rIx K) ta' tb) (fun ρ=>(fa' ρ).bind fun x=>(fb ρ).bind fun y=>pIx x y):=fun B H0 H σ ρ F R Q A d=>by
 refine two ha hb A d.bind2 fun x y v w H' F' d s hF p1 p2 A'=>?_
 obtain⟨z,e,d⟩:=d.pIx
 exact ZfB p1 p2 e fun u hu=>d u H' s ⟨F',hF,hu,A'⟩
def CbP (K:W.Frag) (r:List V->Hp->VK->Prop) (o:List PV->Rr PV):Prop:=∀{H:Hp}{xs:List PV}{vs:List V}{Q:VK},Reps K H (fun _=>True) xs vs->∀z,o xs=.ok z->z.flat=true/\((∀u,Rep K H (fun _=>True) z u->Q u H)->r vs H Q)
theorem Zfg {r:List V->Hp->VK->Prop}{o:List PV->Rr PV} (hr:CbP K r o) (hx:∀xs e,o xs≠.exc e) (ha:DAA K EX Γ Γ' ta fa):DE K EX Γ Γ' .P (tCB r ta) (fun ρ=>(fa ρ).bind o):=fun B H0 H σ ρ F R Q A d=>by
 refine ha B H0 H σ ρ F R _ A (d.bind.imp (fun xs _ d vs H1 F1 s1 f1 p1 A1=>?_) fun e q=>q)
 cases e:o xs with
 |ok z =>
  rw[e] at d
  obtain⟨hf,h⟩:=hr (Q:=Q) p1 z e
  exact h fun u hu=>d u H1 s1 ⟨F1,f1,hf,hu,A1⟩
 |exc q=>exact absurd e (hx xs q)
 |bad=>rw[e] at d;exact d.elim
noncomputable def Zft (xs:List PV):Rr PV:=match xs with
 |[.lst ys]=>.ok (.int ys.length)
 |[.tup ys]=>.ok (.int ys.length)
 |_=>.bad
theorem QM {S:Addr->Prop}{x:PV}{vs:List V} (h:Reps K H S [x] vs):∃v,vs=[v]/\Rep K H S x v:=by
 obtain⟨v,r,rfl,h1,h2⟩:=h
 cases h2
 exact⟨v,rfl,h1⟩
theorem ZfC {S:Addr->Prop}{x y:PV}{vs:List V} (h:Reps K H S [x,y] vs):∃v w,vs=[v,w]/\Rep K H S x v/\Rep K H S y w:=by
 obtain⟨v,r,rfl,h1,w,r',rfl,h2,h3⟩:=h
 cases h3
 exact⟨v,w,rfl,h1,h2⟩
theorem Jt (ha:DAA K EX Γ Γ' ta fa):DE K EX Γ Γ' .P (tCB (fun xs H Q=>∃p ys,xs=[.ref p]/\(SqL K H p ys\/SqT K H p ys)/\Q (.int ys.length) H) ta) (fun ρ=>(fa ρ).bind Zft):=by
 refine Zfg (fun {H xs vs Q} h z e=>?_) (fun xs e h=>?_) ha
 ·unfold Zft at e
  split at e<;>first|(cases e;done)|skip
  all_goals
   cases e
   refine⟨rfl,fun q=>?_⟩
   obtain⟨v,rfl,a,ws,rfl,hn,hr⟩:=QM h
   refine⟨a,ws,rfl, ?_,by rw[hr.length];exact q _ rfl⟩
   first|exact .inl (JD (S:=fun _=>True) hn)|exact .inr hn.sqT
 ·unfold Zft at h;split at h<;>cases h
noncomputable def VG:List PV->Option (List Int)
 |[]=>some []
 |.int i::xs=>(VG xs).map (i::·)
 |_::_=>none
@[simp] theorem Zfv (ns:List Int):VG (ns.map PV.int)=some ns:=by
 induction ns with
 |nil=>rfl
 |cons n ns ih=>simp[VG,ih]
theorem Q0:∀{xs:List PV}{ns:List Int},VG xs=some ns->xs=ns.map PV.int
 |[],_,h=>by cases h;rfl
 |.int i::xs,ns,h=>by
  simp only[VG] at h
  cases e:VG xs with
  |none=>rw[e] at h;cases h
  |some ms=>rw[e] at h;cases h;rw[Q0 e];rfl
 |.non::_,_,h=>by cases h
 |.bl _::_,_,h=>by cases h
 |.str _::_,_,h=>by cases h
 |.exc _::_,_,h=>by cases h
 |.exa _ _::_,_,h=>by cases h
 |.box _ _ _::_,_,h=>by cases h
 |.fz _::_,_,h=>by cases h
 |.lst _::_,_,h=>by cases h
 |.tup _::_,_,h=>by cases h
theorem Qq {S:Addr->Prop}:∀{ns:List Int}{vs:List V},Reps K H S (ns.map PV.int) vs->vs=ns.map V.int
 |[],_,h=>h
 |n::ns,_,h=>by
  obtain⟨v,r,rfl,h1,h2⟩:=h
  cases h1
  rw[Qq h2];rfl
theorem Qz {S:Addr->Prop}:∀(ns:List Int),Reps K H S (ns.map PV.int) (ns.map V.int)
 |[]=>rfl
 |n::ns=>⟨_,_,rfl,rfl,Qz ns⟩
theorem ZcY {S:Addr->Prop}{ns:List Int}{v:V} (h:Rep K H S (.lst (ns.map PV.int)) v):∃a,v=.ref a/\SqL K H a (ns.map V.int):=by
 obtain⟨a,vs,rfl,hn,hr⟩:=h
 rw[Qq hr] at hn
 exact⟨a,rfl,JD hn⟩
noncomputable def ZaU (g:List Int->Rr PV) (xs:List PV):Rr PV:=match xs with
 |[.lst ys]=>match VG ys with
  |some ns=>g ns
  |none=>.bad
 |_=>.bad
theorem Rr.ints {g:List Int->Rr PV}{xs:List PV}{z:PV} (e:ZaU g xs=.ok z):∃ns,xs=[.lst (ns.map PV.int)]/\g ns=.ok z:=by
 unfold ZaU at e
 split at e
 ·split at e
  ·rename_i ns h
   exact⟨ns,by rw[Q0 h],e⟩
  ·cases e
 ·cases e
theorem QP {g:List Int->Rr PV} (hg:∀ns e,g ns≠.exc e) (xs:List PV) (e:PX):ZaU g xs≠.exc e:=by
 intro h
 unfold ZaU at h
 split at h
 ·split at h
  ·exact hg _ _ h
  ·cases h
 ·cases h
noncomputable abbrev Zhe:=ZaU fun ns=>.ok (.int ns.sum)
theorem ZcB (ha:DAA K EX Γ Γ' ta fa):DE K EX Γ Γ' .P (tCB (fun xs H Q=>∃p,∃ns:List Int,xs=[.ref p]/\SqL K H p (ns.map V.int)/\Q (.int ns.sum) H) ta) (fun ρ=>(fa ρ).bind Zhe):=by
 refine Zfg (fun {H xs vs Q} h z e=>?_) (QP fun ns e h=>by cases h) ha
 obtain⟨ns,rfl,e'⟩:=Rr.ints e
 cases e'
 obtain⟨v,rfl,h1⟩:=QM h
 obtain⟨a,rfl,h2⟩:=ZcY h1
 exact⟨rfl,fun q=>⟨a,ns,rfl,h2,q _ rfl⟩⟩
noncomputable def Zad:List PV->Option (List Bool)
 |[]=>some []
 |.bl i::xs=>(Zad xs).map (i::·)
 |_::_=>none
@[simp] theorem ZcH (ns:List Bool):Zad (ns.map PV.bl)=some ns:=by
 induction ns with
 |nil=>rfl
 |cons n ns ih=>simp[Zad,ih]
theorem ZaP:∀{xs:List PV}{ns:List Bool},Zad xs=some ns->xs=ns.map PV.bl
 |[],_,h=>by cases h;rfl
 |.bl i::xs,ns,h=>by
  simp only[Zad] at h
  cases e:Zad xs with
  |none=>rw[e] at h;cases h
  |some ms=>rw[e] at h;cases h;rw[ZaP e];rfl
 |.non::_,_,h=>by cases h
 |.int _::_,_,h=>by cases h
 |.str _::_,_,h=>by cases h
 |.exc _::_,_,h=>by cases h
 |.exa _ _::_,_,h=>by cases h
 |.box _ _ _::_,_,h=>by cases h
 |.fz _::_,_,h=>by cases h
 |.lst _::_,_,h=>by cases h
 |.tup _::_,_,h=>by cases h
theorem Zaq {S:Addr->Prop}:∀{ns:List Bool}{vs:List V},Reps K H S (ns.map PV.bl) vs->vs=ns.map V.bl
 |[],_,h=>h
 |n::ns,_,h=>by
  obtain⟨v,r,rfl,h1,h2⟩:=h
  cases h1
  rw[Zaq h2];rfl
noncomputable def ZfX (xs:List PV):Rr PV:=match xs with
 |[.lst ys]=>match Zad ys with
  |some bs=>.ok (.bl (bs.all id))
  |none=>.bad
 |_=>.bad
theorem Zej (ha:DAA K EX Γ Γ' ta fa):DE K EX Γ Γ' .P (tCB (fun xs H Q=>∃p,∃bs:List Bool,xs=[.ref p]/\SqL K H p (bs.map V.bl)/\Q (.bl (bs.all id)) H) ta) (fun ρ=>(fa ρ).bind ZfX):=by
 refine Zfg (fun {H xs vs Q} h z e=>?_) (fun xs e h=>?_) ha
 ·unfold ZfX at e
  split at e
  ·split at e
   ·rename_i bs hb
    cases e
    rw[ZaP hb] at h
    obtain⟨v,rfl,a,ws,rfl,hn,hr⟩:=QM h
    rw[Zaq hr] at hn
    exact⟨rfl,fun q=>⟨a,bs,rfl,JD (S:=fun _=>True) hn,q _ rfl⟩⟩
   ·cases e
  ·cases e
 ·unfold ZfX at h
  split at h
  ·split at h<;>cases h
  ·cases h
end
theorem VU {n:Nat} (h:n<=1000000):n<=sizeLine:=Zml h (by decide)
def LX (K:W.Frag) (H:Hp) (a:Addr) (vs:List V):Prop:=Rd H a (.lst vs)\/KL K a vs
noncomputable def ZfE (K:W.Frag):R2:=fun x y H Q=>∃l b xs zs,x=.ref l/\y=.ref b/\LX K H l xs/\LX K H b zs/\xs.length+zs.length<=sizeLine/\∀p,H p=none->Q (.ref p) (upd H p (.lst (xs++zs)))
section
variable {X:Cx}{K:W.Frag}
theorem Zgd {H:Hp}{S:Addr->Prop}{a:Addr}{vs:List V} (h:(Rd H a (.lst vs)/\S a)\/KL K a vs):LX K H a vs:=h.elim (fun z=>.inl z.1) .inr
theorem Zcb (e:X.K=K:=by rfl):OpR X (binaryOp .Add) (ZfE K):=by
 subst e
 intro pins s σ H x y v u Q I rx ry h
 obtain⟨l,b,xs,zs,rfl,rfl,hH,hB,hz,q⟩:=h
 cases rx
 cases ry
 obtain⟨its,r,pl,_⟩:=I.list (show SqL X.K H l xs from hH)
 obtain⟨its2,r2,pl2,_⟩:=I.list (show SqL X.K H b zs from hB)
 have hl:=r.length
 have hl2:=r2.length
 obtain⟨⟨cls,dd,data,sl⟩,ho,hc,n,hd⟩:=pl.isList
 obtain⟨⟨cls2,dd2,data2,sl2⟩,ho2,hc2,n2,hd2⟩:=pl2.isList
 simp only at hc hd hc2 hd2
 subst hc hd hc2 hd2
 have ea:its.toArray++its2.toArray=(its++its2).toArray:=by simp
 refine concat_meets ⟨_,ho,rfl⟩ ⟨_,ho2,rfl⟩ noFill_list_add seq_list_add PySem.F.slot_list_add PySem.F.entry_list_add (PySem.F.args_list_add_2 _ _) (list_addW l b its.toArray its2.toArray n n2 dd dd2 sl sl2 (by rw[ZlW,ZlW];omega)) ⟨ho,ho2, ?_⟩
 rw[ea]
 exact⟨.ref _,_,I.lnew (t':=s.toks) (r.append r2) (by rw[Zmx];omega),rfl,q _ I.fresh⟩
end
def Frm (H:Hp) (F:Nat->List Addr) (H':Hp) (F':Nat->List Addr):Prop:=∀a o,H a=some o->(∀i,a ∉ F i)->H' a=some o/\∀i,a ∉ F' i
theorem Frm.refl {H:Hp}{F:Nat->List Addr}:Frm H F H F:=fun a o h n=>⟨h,n⟩
theorem Frm.trans {H H1 H2:Hp}{F F1 F2:Nat->List Addr} (h1:Frm H F H1 F1) (h2:Frm H1 F1 H2 F2):Frm H F H2 F2:=fun a o h n=>let ⟨h3,n3⟩:=h1 a o h n;h2 a o h3 n3
theorem Frm.of {H H':Hp}{F F':Nat->List Addr} (s:Z6 H H') (f:∀i,∀a∈F' i,a∈F i):Frm H F H' F':=fun a o h n=>⟨s a o h,fun i z=>n i (f i a z)⟩
def ItP (K:W.Frag) (S:Addr->Prop) (J:It) (xs:List PV) (H:Hp):Prop:=
 ∀i,(∀x,xs[i]?=some x->J.go i H/\∀v H',J.yld i H v H'->Z6 H H'/\Rep K H' S x v)/\(xs[i]?=none->J.stop i H)
def DI (K:W.Frag) (EX:PX->Hp->Prop) (Γ Γ':List Md) (wi:TI) (f:List PV->Rr (List PV)):Prop:=
 ∀(B:Addr->Prop) (H0 H:Hp) (σ:St) (ρ:List PV) (F:Nat->List Addr) (R:List Addr) (Q:It->Hp->Prop),Ag K B H0 H σ Γ ρ F R ->
  Dn (f ρ) (fun xs=>∀J H' F',Z6 H H'->(∀i,∀a∈F' i,a∈F i)->Ag K B H0 H' σ Γ' ρ F' R->(∀H2 F2,Frm H' F' H2 F2->ItP K (fun a=>NO B F2 R a/\H' a≠none/\∀i,a ∉ F' i) J xs H2)->Q J H') (fun e=>∀H',Z6 H0 H'->EX e H')->wi σ H Q
def DIc (K:W.Frag) (EX:PX->Hp->Prop) (Γ Γ':List Md) (wi:TI) (f:List PV->Rr (List PV)):Prop:=
 ∀(B:Addr->Prop) (H0 H:Hp) (σ:St) (ρ:List PV) (F:Nat->List Addr) (R:List Addr) (Q:It->Hp->Prop),Ag K B H0 H σ Γ ρ F R ->
  Dn (f ρ) (fun xs=>∀J H' F',Z6 H H'->(∀i,∀a∈F' i,a∈F i)->Ag K B H0 H' σ Γ' ρ F' R->(∀H2 F2,Z6 H' H2->(∀i,∀a∈F2 i,a∈F' i)->ItP K (fun a=>NO B F2 R a/\H' a≠none/\∀i,a ∉ F' i) J xs H2)->Q J H') (fun e=>∀H',Z6 H0 H'->EX e H')->wi σ H Q
theorem DI.c {K:W.Frag}{EX:PX->Hp->Prop}{Γ Γ':List Md}{wi:TI}{f:List PV->Rr (List PV)} (h:DI K EX Γ Γ' wi f):DIc K EX Γ Γ' wi f:=fun B H0 H σ ρ F R Q A d =>
 h B H0 H σ ρ F R Q A (d.imp (fun xs _ d J H' F' s1 f1 A1 it=>d J H' F' s1 f1 A1 fun H2 F2 s2 f2=>it H2 F2 (Frm.of s2 f2)) fun e q=>q)
theorem ItP.flat {K:W.Frag}{S S':Addr->Prop}{J:It}{xs:List PV}{H:Hp} (f:PV.flats xs=true) (h:ItP K S J xs H):ItP K S' J xs H:=fun i=>by
 refine⟨fun x hx=>?_,(h i).2⟩
 obtain⟨h1,h2⟩:=(h i).1 x hx
 have fx:∀(xs:List PV) (i:Nat),PV.flats xs=true->xs[i]?=some x->x.flat=true:=by
  intro xs
  induction xs with
  |nil=>intro i _ h;simp at h
  |cons y ys ih =>
   intro i hf hx
   simp only[PV.flats,Bool.and_eq_true] at hf
   cases i with
   |zero=>simp at hx;rw[<- hx];exact hf.1
   |succ i=>exact ih i hf.2 (by simpa using hx)
 exact⟨h1,fun v H' y=>⟨(h2 v H' y).1,(h2 v H' y).2.flatS (fx xs i f hx)⟩⟩
section
variable {K:W.Frag}{B:Addr->Prop}{EX:PX->Hp->Prop}{H0 H H':Hp}{σ:St}{Γ Γ' Γ1 Γ2 Γ3:List Md}{ρ:List PV}{F F':Nat->List Addr}{R:List Addr}{k:Kd}{x:PV}{v:V}{te tb:TE}{ta:TA}{f fb:List PV->Rr PV}{fa:List PV->Rr (List PV)}
theorem Rep.frm {F2:Nat->List Addr}{H2:Hp} (h:Frm H F H2 F2) (A:Ag K B H0 H σ Γ ρ F R) (r:Rep K H (NO B F R) x v):Rep K H2 (fun a=>NO B F2 R a/\H a≠none/\∀i,a ∉ F i) x v:=by
 refine Rep.mono (fun a us s r=>?_) (fun a us r=>?_) r
 ·rcases r with r|⟨o,r⟩
  ·obtain⟨h1,h2⟩:=h a _ r s.2.2;exact⟨.inl h1,⟨s.1,s.2.1,h2⟩,by rw[r];simp,s.2.2⟩
  ·obtain⟨h1,h2⟩:=h a _ r s.2.2;exact⟨.inr ⟨o,h1⟩,⟨s.1,s.2.1,h2⟩,by rw[r];simp,s.2.2⟩
 ·refine⟨(h a _ r.1 fun i z=>?_).1,r.2⟩
  obtain⟨vs,q⟩:=A.live i a z
  exact Za9 vs.2 r.2 (by rw[r.1] at q;exact Option.some.inj q)
noncomputable def ZaT (lo:Int) (n:Nat):List PV:=(List.range n).map fun(k:Nat)=>PV.int (lo+(k:Int))
theorem Zct {lo:Int}{n:Nat}{S:Addr->Prop}:ItP K S (Itr lo n) (ZaT lo n) H:=by
 intro i
 constructor
 ·intro x hx
  unfold ZaT at hx
  rw[Zmm] at hx
  by_cases h:i<n
  ·rw[Zmr h] at hx
   cases hx
   exact⟨h,fun v H' ⟨e1,e2⟩=>by subst e1 e2;exact⟨Z6.refl _,rfl⟩⟩
  ·rw[Zmc (by simpa using h)] at hx;cases hx
 ·intro hx
  unfold ZaT at hx
  have:=Zmz.mp hx
  show n<=i
  simpa using this
noncomputable def okR (j:Int):Bool:=decide (-(2^62)<=j/\j<2^62)
noncomputable def Zdg (xs:List PV):Rr (List PV):=match xs with
 |[.int j]=>if okR j=true then .ok (ZaT 0 j.toNat) else .bad
 |_=>.bad
noncomputable def Zde (xs:List PV):Rr (List PV):=match xs with
 |[.int i,.int j]=>if (okR i&&okR j)=true then .ok (ZaT i (j-i).toNat) else .bad
 |_=>.bad
theorem JG (ha:DAA K EX Γ Γ' ta fa):DI K EX Γ Γ' (Zgu ta) (fun ρ=>(fa ρ).bind Zdg):=fun B H0 H σ ρ F R Q A d=>by
 refine ha B H0 H σ ρ F R _ A (d.bind.imp (fun xs _ d vs H1 F1 s1 f1 p1 A1=>?_) fun e q=>q)
 unfold Zdg at d
 split at d
 ·rename_i j _
  obtain⟨v,rfl,h1⟩:=QM p1
  cases h1
  by_cases h:okR j=true
  ·rw[if_pos h] at d
   have h':=of_decide_eq_true h
   exact⟨j,rfl,h'.1,h'.2,d _ H1 F1 s1 f1 A1 fun H2 F2 _=>Zct⟩
  ·rw[if_neg h] at d;exact d.elim
 ·exact d.elim
theorem Zfa (ha:DAA K EX Γ Γ' ta fa):DI K EX Γ Γ' (Zgt ta) (fun ρ=>(fa ρ).bind Zde):=fun B H0 H σ ρ F R Q A d=>by
 refine ha B H0 H σ ρ F R _ A (d.bind.imp (fun xs _ d vs H1 F1 s1 f1 p1 A1=>?_) fun e q=>q)
 unfold Zde at d
 split at d
 ·rename_i i j _
  obtain⟨v,w,rfl,h1,h2⟩:=ZfC p1
  cases h1;cases h2
  by_cases h:(okR i&&okR j)=true
  ·rw[if_pos h] at d
   rw[Bool.and_eq_true] at h
   have h':=of_decide_eq_true h.1
   have h'':=of_decide_eq_true h.2
   exact⟨i,j,rfl,⟨h'.1,h'.2,h''.1,h''.2⟩,d _ H1 F1 s1 f1 A1 fun H2 F2 _=>Zct⟩
  ·rw[if_neg h] at d;exact d.elim
 ·exact d.elim
noncomputable def asL (x:PV):Rr (List PV):=match x with
 |.lst xs=>.ok xs
 |_=>.bad
theorem Zcu {a:Addr}{xs:List PV}{S:Addr->Prop} (h:Rep K H S (.lst xs) (.ref a)):ItP K S (Itl K a) xs H:=by
 obtain⟨a',vs,e,hn,hr⟩:=h
 cases e
 intro i
 constructor
 ·intro x hx
  obtain⟨u,e1,e2⟩:=hr.get hx
  refine⟨⟨vs,u,JD hn,e1⟩,fun v H' ⟨e,y⟩=>?_⟩
  subst e
  have:=y vs (JD hn)
  rw[e1] at this;cases this
  exact⟨Z6.refl _,e2⟩
 ·intro hx
  exact⟨vs,JD hn,by rw[hr.length];exact Zmz.mp hx⟩
theorem Zc8 (he:DE K EX Γ Γ' .Z te f):DI K EX Γ Γ' (Zd7 K te) (fun ρ=>(f ρ).bind asL):=fun B H0 H σ ρ F R Q A d=>by
 refine he B H0 H σ ρ F R _ A (d.bind.imp (fun x _ d v H1 s1 r1=>?_) fun e q=>q)
 obtain⟨F1,f1,p1,A1⟩:=r1
 cases x with
 |lst xs =>
  obtain⟨a,vs,rfl,hn,hr⟩:=id p1
  exact⟨a,rfl,⟨vs,JD hn⟩,d _ H1 F1 s1 f1 A1 fun H2 F2 h=>Zcu (p1.frm h A1)⟩
 |_=>exact d.elim
noncomputable def ZgN (x:PV):Rr (List PV):=match x with
 |.lst xs=>if PV.flats xs=true then .ok xs else .bad
 |_=>.bad
theorem ZdD (he:DE K EX Γ Γ' .A te f):DIc K EX Γ Γ' (Zd7 K te) (fun ρ=>(f ρ).bind ZgN):=fun B H0 H σ ρ F R Q A d=>by
 refine he B H0 H σ ρ F R _ A (d.bind.imp (fun x _ d v H1 s1 r1=>?_) fun e q=>q)
 obtain⟨F1,f1,p1,A1⟩:=r1
 cases x with
 |lst xs =>
  unfold ZgN at d
  by_cases hf:PV.flats xs=true
  ·simp only[hf,if_true] at d
   obtain⟨a,vs,rfl,hn,hr⟩:=id p1
   exact⟨a,rfl,⟨vs,JD (S:=fun _=>True) hn⟩,d _ H1 F1 s1 f1 A1 fun H2 F2 s2 _=>ItP.flat hf (Zcu (p1.same s2))⟩
  ·simp only[hf] at d;exact d.elim
 |_=>exact d.elim
theorem Ur:∀{ns:List Int},PV.flats (ns.map PV.int)=true
 |[]=>rfl
 |n::ns=>by simp only[Zmd,PV.flats,PV.flat,Ur,Bool.and_self]
theorem ZdL {ns:List Int}:ZgN (.lst (ns.map PV.int))=.ok (ns.map PV.int):=by unfold ZgN;simp only[Ur,if_true]
def DO (K:W.Frag) (EX:PX->Hp->Prop) (Γ Γ':List Md) (t:TO) (f:List PV->Rr (Option Int)):Prop:=
 ∀(B:Addr->Prop) (H0 H:Hp) (σ:St) (ρ:List PV) (F:Nat->List Addr) (R:List Addr) (Q:Option Int->Hp->Prop),Ag K B H0 H σ Γ ρ F R ->
  Dn (f ρ) (fun o=>∀H' F',Z6 H H'->(∀i,∀a∈F' i,a∈F i)->Ag K B H0 H' σ Γ' ρ F' R->Q o H') (fun e=>∀H',Z6 H0 H'->EX e H')->t σ H Q
theorem Zc7:DO K EX Γ Γ Zb0 (fun _=>.ok none):=fun B H0 H σ ρ F R Q A d=>d H F (Z6.refl H) (fun _ _ h=>h) A
noncomputable def asI (x:PV):Rr Int:=match x with
 |.int i=>.ok i
 |_=>.bad
theorem Dn.asI {x:PV}{ok:Int->Prop}{ex:PX->Prop} (d:Dn (asI x) ok ex):∃b,x=.int b/\ok b:=by
 cases x with
 |int b=>exact⟨b,rfl,d⟩
 |_=>exact d.elim
theorem Zc6 (he:DE K EX Γ Γ' .A te f):DO K EX Γ Γ' (Zf3 te) (fun ρ=>(f ρ).bind fun x=>(asI x).bind fun i=>.ok (some i)):=fun B H0 H σ ρ F R Q A d=>by
 refine he B H0 H σ ρ F R _ A (d.bind.imp (fun x _ d v H1 s1 r1=>?_) fun e q=>q)
 obtain⟨i,rfl,d⟩:=d.bind.asI
 obtain⟨F1,f1,p1,A1⟩:=r1
 cases p1
 exact⟨i,rfl,d H1 F1 s1 f1 A1⟩
noncomputable def Zg4 {α:Type} (xs:List α) (lo hi:Option Int):List α:=(xs.drop (HT.sIx xs.length 0 lo)).take (HT.sIx xs.length xs.length hi-HT.sIx xs.length 0 lo)
theorem Reps.cut {S:Addr->Prop}{xs:List PV}{vs:List V} (h:Reps K H S xs vs) (lo hi:Option Int):Reps K H S (Zg4 xs lo hi) (Zfx vs lo hi):=by
 unfold Zg4 Zfx
 rw[h.length]
 exact(h.drop _).take _
noncomputable def newF (xs:List PV):Rr PV:=if (PV.flats xs&&decide (xs.length<=1000000))=true then .ok (.lst xs) else .bad
theorem Dn.newF {xs:List PV}{ok:PV->Prop}{ex:PX->Prop} (d:Dn (newF xs) ok ex):PV.flats xs=true/\xs.length<=1000000/\ok (.lst xs):=by
 unfold L2.newF at d
 by_cases h:(PV.flats xs&&decide (xs.length<=1000000))=true
 ·rw[if_pos h] at d
  rw[Bool.and_eq_true] at h
  exact⟨h.1,of_decide_eq_true h.2,d⟩
 ·rw[if_neg h] at d;exact d.elim
theorem Zeg {tl th:TO}{fl fh:List PV->Rr (Option Int)} (he:DE K EX Γ Γ1 .A te f) (hl:DO K EX Γ1 Γ2 tl fl) (hh:DO K EX Γ2 Γ3 th fh) :
  DE K EX Γ Γ3 .F (tSl (ZgZ K) te tl th) (fun ρ=>(f ρ).bind fun x=>(fl ρ).bind fun lo=>(fh ρ).bind fun hi=>(asL x).bind fun xs=>newF (Zg4 xs lo hi)):=fun B H0 H σ ρ F R Q A d=>by
 refine he B H0 H σ ρ F R _ A (d.bind.imp (fun x _ d v H1 s1 r1=>?_) fun e q=>q)
 obtain⟨F1,f1,p1,A1⟩:=r1
 refine hl B H0 H1 σ ρ F1 R _ A1 (d.bind.imp (fun lo _ d H2 F2 s2 f2 A2=>?_) fun e q=>q)
 refine hh B H0 H2 σ ρ F2 R _ A2 (d.bind.imp (fun hi _ d H3 F3 s3 f3 A3=>?_) fun e q=>q)
 cases x with
 |lst xs =>
  obtain⟨h1,h2,d⟩:=Dn.newF d
  obtain⟨a,vs,rfl,hn,hr⟩:=(p1.same s2).same s3
  refine⟨a,vs,rfl,JD (S:=fun _=>True) hn,fun p hp=>?_⟩
  exact d _ _ (((s1.trans s2).trans s3).trans (Z6.new hp)) (Res.newP ((s1.trans s2).trans s3) (fun i a h=>f1 i a (f2 i a (f3 i a h))) (hr.cut lo hi) h1 A3 hp)
 |_=>exact d.elim
theorem ZcC {tb':TE}{fb':List PV->Rr PV} (ha:DE K EX Γ Γ1 .A te f) (hb:DE K EX Γ1 Γ2 .A tb' fb') :
  DE K EX Γ Γ2 .F (tOp (ZfE K) te tb') (fun ρ=>(f ρ).bind fun x=>(fb' ρ).bind fun y=>(asL x).bind fun xs=>(asL y).bind fun ys=>newF (xs++ys)):=fun B H0 H σ ρ F R Q A d=>by
 refine two ha hb A d.bind2 fun x y v w H' F' d s hF p1 p2 A'=>?_
 cases x with
 |lst xs =>
  cases y with
  |lst ys =>
   obtain⟨h1,h2,d⟩:=Dn.newF d
   obtain⟨a,vs,rfl,hn,hr⟩:=p1
   obtain⟨b,ws,rfl,hn',hr'⟩:=p2
   refine⟨a,b,vs,ws,rfl,rfl,Zgd (S:=fun _=>True) hn,Zgd (S:=fun _=>True) hn', ?_,fun p hp=>?_⟩
   ·rw[hr.length,hr'.length,<- Zmx];exact VU h2
   ·exact d _ _ (s.trans (Z6.new hp)) (Res.newP s hF (hr.append hr') h1 A' hp)
  |_=>exact d.elim
 |_=>exact d.elim
noncomputable def ZfJ (xs:List PV) (y:PV):Rr PV:=match y with
 |.int k=>if xs.length*k.toNat<=1000000/\-(2^63)<=k/\k<2^63 then newF (List.replicate k.toNat xs).flatten else .bad
 |_=>.bad
theorem Reps.rep {S:Addr->Prop}{xs:List PV}{vs:List V} (h:Reps K H S xs vs):∀n:Nat,Reps K H S (List.replicate n xs).flatten (List.replicate n vs).flatten
 |0=>rfl
 |n+1=>by
  rw[Zmq,Zmq,ZmH,ZmH]
  exact h.append (Reps.rep h n)
theorem UX (ha:DAA K EX Γ Γ1 ta fa) (hb:DE K EX Γ1 Γ2 .A tb fb) :
  DE K EX Γ Γ2 .F (tOp Zh9 (ZgX ta) tb) (fun ρ=>(fa ρ).bind fun xs=>(mkL xs).bind fun _=>(fb ρ).bind fun y=>ZfJ xs y):=fun B H0 H σ ρ F R Q A d=>by
 refine ha B H0 H σ ρ F R _ A (d.bind.imp (fun xs _ d vs H1 F1 s1 f1 p1 A1=>?_) fun e q=>q)
 obtain⟨hl,d⟩:=Dn.mkL d.bind
 refine⟨by rw[p1.length];exact VV hl,fun p hp=>?_⟩
 have e:Z6 H1 (upd H1 p (.lst vs)):=Z6.new hp
 refine hb B H0 _ σ ρ F1 R _ (A1.grow e) (d.bind.imp (fun y _ d w H2 s2 r2=>?_) fun e q=>q)
 obtain⟨F2,f2,p2,A2⟩:=r2
 cases y with
 |int k =>
  cases p2
  simp only[ZfJ] at d
  by_cases h:xs.length*k.toNat<=1000000/\-(2^63)<=k/\k<2^63
  ·rw[if_pos h] at d
   obtain⟨h1,h2,d⟩:=Dn.newF d
   refine⟨p,k,vs,rfl,rfl,s2 _ _ ZO,h.2.1,h.2.2,by rw[p1.length];exact VU h.1,fun q hq=>?_⟩
   have st:=(s1.trans e).trans s2
   exact d _ _ (st.trans (Z6.new hq)) (Res.newP st (fun i a h=>f1 i a (f2 i a h)) (((p1.same e).same s2).rep k.toNat) h1 A2 hq)
  ·rw[if_neg h] at d;exact d.elim
 |_=>exact d.elim
noncomputable def Zdi (xs:List PV):Rr PV:=match xs with
 |[.lst ys]=>newF ys
 |[.tup ys]=>newF ys
 |_=>.bad
theorem Vy (ha:DAA K EX Γ Γ' ta fa):DE K EX Γ Γ' .F (tCB (fun xs H Q=>∃p ys,xs=[.ref p]/\(SqL K H p ys\/SqT K H p ys)/\∀l,H l=none->Q (.ref l) (upd H l (.lst ys))) ta) (fun ρ=>(fa ρ).bind Zdi):=fun B H0 H σ ρ F R Q A d=>by
 refine ha B H0 H σ ρ F R _ A (d.bind.imp (fun xs _ d vs H1 F1 s1 f1 p1 A1=>?_) fun e q=>q)
 unfold Zdi at d
 split at d
 ·obtain⟨h1,h2,d⟩:=Dn.newF d
  obtain⟨v,rfl,a,ws,rfl,hn,hr⟩:=QM p1
  exact⟨a,ws,rfl,.inl (JD (S:=fun _=>True) hn),fun l hl=>d _ _ (s1.trans (Z6.new hl)) (Res.newP s1 f1 hr h1 A1 hl)⟩
 ·obtain⟨h1,h2,d⟩:=Dn.newF d
  obtain⟨v,rfl,a,ws,rfl,hn,hr⟩:=QM p1
  exact⟨a,ws,rfl,.inr hn.sqT,fun l hl=>d _ _ (s1.trans (Z6.new hl)) (Res.newP s1 f1 hr h1 A1 hl)⟩
 ·exact d.elim
noncomputable def Jx:PV->String
 |.non => "NoneType"
 |.bl _ => "bool"
 |.int _ => "int"
 |.str _ => "str"
 |.lst _ => "list"
 |.tup _ => "tuple"
 |.exc _ => "?"
 |.exa _ _ => "?"
 |.box _ (.dk _) _ => "dict"
 |.box _ (.dt _) _ => "dict"
 |.box _ (.ob _ _) _ => "?"
 |.box _ .jk _ => "?"
 |.box _ .ls _ => "?"
 |.fz _ => "?"
noncomputable def PV.isX:PV->Bool
 |.exc _=>true
 |.exa _ _=>true
 |.box _ _ _=>true
 |.fz _=>true
 |_=>false
noncomputable def VB (t n:String):Bool:=t==n || (t == "bool" && n == "int")
noncomputable def ZgT (n:String):Bool:=n == "int" || n == "bool" || n == "str" || n == "list" || n == "tuple"
theorem Zgi (K:W.Frag) {n:String} (h:ZgT n=true) (x:PV) (hx:x.isX=false):PySem.W.kitOne K (.type (Jx x)) (.type n)=some (VB (Jx x) n):=by
 simp only[ZgT,Bool.or_eq_true,beq_iff_eq] at h
 rcases h with (((rfl|rfl)|rfl)|rfl)|rfl<;>cases x<;>first|rfl|cases hx
def ZhD (K:W.Frag) (n:String):List V->Hp->VK->Prop:=fun xs H Q=>∃x p,xs=[x,.ty n]/\Rep K H (fun _=>True) p x/\p.isX=false/\Q (.bl (VB (Jx p) n)) H
theorem Jn {X:Cx}{n:String} (hn:ZgT n=true) (e:X.K=K:=by rfl):VP X (.builtin "isinstance") (ZhD K n):=by
 subst e
 intro pins s σ H xs us Q I r h
 obtain⟨x,p,rfl,hp,hx,q⟩:=h
 obtain⟨u,w',rfl,rx,rn⟩:=ZgS r
 cases rn
 have e:=Zgi X.K hn p hx
 have fin:∀tk,EP X pins σ Q (.bool (VB (Jx p) n)) { s with toks:=tk }:=fun tk=>⟨.bl _,H,I.tok _,rfl,q⟩
 cases p with
 |non=>cases hp;cases rx;exact PySem.W.kia_one PySem.W.kitx_none I.kIn True.intro e (fun z=>nomatch z) fin
 |bl y=>cases hp;cases rx;exact PySem.W.kia_one PySem.W.kitx_bool I.kIn True.intro e (fun z=>nomatch z) fin
 |int i=>cases hp;obtain⟨t,rfl⟩:=rx;exact PySem.W.kia_one PySem.W.kitx_int I.kIn True.intro e (fun z=>nomatch z) fin
 |str y=>cases hp;obtain⟨t,rfl⟩:=rx;exact PySem.W.kia_one PySem.W.kitx_str I.kIn True.intro e (fun z=>nomatch z) fin
 |exc y=>cases hx
 |exa y i=>cases hx
 |box p s ps=>cases hx
 |fz ps=>cases hx
 |lst ps =>
  obtain⟨a,vs,rfl,hn',hr⟩:=hp
  cases rx
  obtain⟨its,_,pl,_⟩:=I.list (JD (S:=fun _=>True) hn')
  obtain⟨o,h1,h2,_⟩:=pl.isList
  exact PySem.W.kia_one PySem.W.kitx_list I.kIn ⟨o,h1,h2⟩ e (fun z=>nomatch z) fin
 |tup ps =>
  obtain⟨a,vs,rfl,hn',hr⟩:=hp
  cases rx
  obtain⟨its,_,⟨o,h1,h2,_⟩,_⟩:=I.tuple hn'.sqT
  exact PySem.W.kia_one PySem.W.kitx_tuple I.kIn ⟨o,h1,h2⟩ e (fun z=>nomatch z) fin
noncomputable def Zfu (n:String) (x:PV):Rr PV:=if x.isX=true then .bad else .ok (.bl (VB (Jx x) n))
theorem VI {n:String} (he:DE K EX Γ Γ' .A te f):DE K EX Γ Γ' .P (tCB (ZhD K n) (UI te (UI (tC (.ty n)) Zet))) (fun ρ=>(f ρ).bind (Zfu n)):=fun B H0 H σ ρ F R Q A d=>by
 refine he B H0 H σ ρ F R _ A (d.bind.imp (fun x _ d v H1 s1 r1=>?_) fun e q=>q)
 obtain⟨F1,f1,p1,A1⟩:=r1
 unfold Zfu at d
 cases hx:x.isX with
 |true=>rw[hx] at d;exact d.elim
 |false=>rw[hx] at d;exact⟨v,x,rfl,p1,hx,d _ H1 s1 ⟨F1,f1,rfl,rfl,A1⟩⟩
def Len (fa:List PV->Rr (List PV)) (n:Nat):Prop:=∀ρ xs,fa ρ=.ok xs->xs.length=n
theorem Z0:Len (fun _=>.ok []) 0:=fun ρ xs h=>by cases h;rfl
theorem Zo {f:List PV->Rr PV}{fa:List PV->Rr (List PV)}{n:Nat} (h:Len fa n):Len (fun ρ=>(f ρ).bind fun x=>(fa ρ).bind fun xs=>.ok (x::xs)) (n+1):=fun ρ xs e=>by
 dsimp only at e
 cases h1:f ρ with
 |ok x =>
  rw[h1] at e
  cases h2:fa ρ with
  |ok ys=>simp only[Rr.bind_ok,h2] at e;cases e;simp[h ρ ys h2]
  |exc q=>simp only[Rr.bind_ok,h2,Rr.bind_exc] at e;cases e
  |bad=>simp only[Rr.bind_ok,h2,Rr.bind_bad] at e;cases e
 |exc q=>rw[h1] at e;cases e
 |bad=>rw[h1] at e;cases e
def Zhx (K:W.Frag) (H:Hp) (a:Addr) (xs:List PV):Prop:=PV.flats xs=true/\∃vs,H a=some (.lst vs)/\Reps K H (fun _=>True) xs vs
def LsR (K:W.Frag) (H:Hp) (x:PV) (v:V) (H':Hp):Prop:=∃y a0 x0 a1 x1 a2 x2,x=.tup [y,.box (some a0) .ls x0,.box (some a1) .ls x1,.box (some a2) .ls x2]/\y.flat=true/\Rep K H' (fun _=>True) y v /\
 Zhx K H' a0 x0/\Zhx K H' a1 x1/\Zhx K H' a2 x2/\H a0=none/\H a1=none/\H a2=none
def Zen (K:W.Frag) (B:Addr->Prop) (H:Hp) (k:Kd) (x:PV) (v:V) (H':Hp):Prop:=match k with
 |.P=>x.flat=true/\Rep K H' (fun _=>True) x v
 |.F=>∃G,JB K H' x v G/\∀a∈G,H a=none
 |.N=>∃y a s xs G1 G2,x=.tup [y,.box (some a) s xs]/\JB K H' y v G1/\JB K H' (.box (some a) s xs) (.ref a) G2/\(∀b∈G1,b ∉ G2)/\(∀b∈G1,H b=none)/\∀b∈G2,H b=none
 |.M=>LsR K H x v H'
 |_=>Rep K H' (fun a=>B a\/H a=none) x v
noncomputable def spF (K:PySem.W.Frag) (n:Nat) (k:Kd) (W:PX->XK->Hp->Prop) (m:List PV->Rr PV):Sp:=fun vs H Q E=>∃B xs,Reps K H B xs vs/\xs.length=n /\
 Dn (m xs) (fun x=>∀v H',Z6 H H'->Zen K B H k x v H'->Q v H') (fun e=>∀H',Z6 H H'->W e E H')
def W0:PX->XK->Hp->Prop:=fun _ _ _=>False
def X0:PX->Hp->Prop:=fun _ _=>False
section
variable {n:Nat}{W:PX->XK->Hp->Prop}{m:List PV->Rr PV}{E:XK}
theorem UY {t:TE} (ht:∀σ H Q,(ta σ H fun vs H1=>spF K n .P W m vs H1 Q E)->t σ H Q) (hW:∀e H',EX e H'->W e E H') (hn:Len fa n) (ha:DAA K EX Γ Γ' ta fa):DE K EX Γ Γ' .P t (fun ρ=>(fa ρ).bind m):=fun B H0 H σ ρ F R Q A d=>by
 refine ht _ _ _ (ha B H0 H σ ρ F R _ A (d.bind.imp (fun xs hx d vs H1 F1 s1 f1 p1 A1=>?_) fun e q=>q))
 exact⟨fun _=>True,xs,p1,hn ρ xs hx,d.imp (fun x _ d v H2 s2 r=>d v H2 (s1.trans s2) ⟨F1,f1,r.1,r.2,A1.grow s2⟩) fun e q H2 s2=>hW e H2 (q H2 (A1.same.trans s2))⟩
theorem ZaK {t:TE} (ht:∀σ H Q,(ta σ H fun vs H1=>spF K n .F W m vs H1 Q E)->t σ H Q) (hW:∀e H',EX e H'->W e E H') (hn:Len fa n) (ha:DAA K EX Γ Γ' ta fa):DE K EX Γ Γ' .F t (fun ρ=>(fa ρ).bind m):=fun B H0 H σ ρ F R Q A d=>by
 refine ht _ _ _ (ha B H0 H σ ρ F R _ A (d.bind.imp (fun xs hx d vs H1 F1 s1 f1 p1 A1=>?_) fun e q=>q))
 refine⟨fun _=>True,xs,p1,hn ρ xs hx,d.imp (fun x _ d v H2 s2 r=>?_) fun e q H2 s2=>hW e H2 (q H2 (A1.same.trans s2))⟩
 obtain⟨G,r1,r2⟩:=r
 exact d v H2 (s1.trans s2) ⟨F1,f1,G,r1,fun a ha=>⟨(A1.fresh (r2 a ha)).1,.inl (s1.free (r2 a ha))⟩,A1.more s2 r2 r1.alive⟩
end
end
noncomputable def ZcN {α β:Type} (f:α->Rr β):List α->Rr (List β)
 |[]=>.ok []
 |x::xs=>(f x).bind fun y=>(ZcN f xs).bind fun ys=>.ok (y::ys)
noncomputable def lenM (xs:List PV):Rr Unit:=if xs.length<=1000000 then .ok () else .bad
theorem Dn.lenM {xs:List PV}{ok:Unit->Prop}{ex:PX->Prop} (d:Dn (lenM xs) ok ex):xs.length<=1000000/\ok ():=by
 unfold L2.lenM at d
 by_cases h:xs.length<=1000000
 ·rw[if_pos h] at d;exact⟨h,d⟩
 ·rw[if_neg h] at d;exact d.elim
theorem Rr.assoc {α β γ:Type}{r:Rr α}{f:α->Rr β}{g:β->Rr γ}:(r.bind f).bind g=r.bind fun a=>(f a).bind g:=by cases r<;>rfl
section
variable {K:W.Frag}{B:Addr->Prop}{EX:PX->Hp->Prop}{H0 H H':Hp}{σ:St}{Γ Γ1:List Md}{ρ:List PV}{F:Nat->List Addr}{R:List Addr}{x:PV}{v:V}{te:TE}{fe:List PV->Rr PV}
theorem Ag.outF (A:Ag K B H0 H σ Γ ρ F R) {i:Nat} (h:Γ.length<=i):F i=[]:=by
 have:=A.slot i
 rw[ZlS,Zmc h] at this
 exact this
theorem Ag.push (A:Ag K B H0 H σ Γ ρ F R) (h:Rep K H (NO B F R) x v):Ag K B H0 H (σ++[some v]) (Γ++[.S]) (ρ++[x]) F R:=by
 refine⟨A.same,A.own,A.young,A.youngR,A.live,A.liveR,A.disj,A.disjR,by simp[A.lenS],by simp[A.lenR],fun i=>?_⟩
 by_cases h1:i<Γ.length
 ·have:=A.slot i
  rw[ZlS,ZlS,ZlV h1,ZlV (by rw[A.lenR];exact h1),ZlV (by rw[A.lenS];exact h1),<- ZlS,<- ZlS]
  exact this
 ·by_cases h2:i=Γ.length
  ·subst h2
   rw[ZlS,ZlS,ZlZ (ZlY _),ZlZ (by rw[A.lenR];exact ZlY _),ZlZ (by rw[A.lenS];exact ZlY _),A.lenR,A.lenS]
   simp only[Nat.sub_self,ZmV,Zne]
   exact⟨A.outF (ZlY _),v,rfl,h⟩
  ·rw[ZlS,Zmc (by simp;omega)]
   exact A.outF (by omega)
theorem Ag.pop {o:Option V} (A:Ag K B H0 H (σ++[o]) (Γ++[.S]) (ρ++[x]) F R):Ag K B H0 H σ Γ ρ F R:=by
 have l1:σ.length=Γ.length:=by have:=A.lenS;simpa using this
 have l2:ρ.length=Γ.length:=by have:=A.lenR;simpa using this
 refine⟨A.same,A.own,A.young,A.youngR,A.live,A.liveR,A.disj,A.disjR,l1,l2,fun i=>?_⟩
 have:=A.slot i
 by_cases h1:i<Γ.length
 ·rw[ZlS,ZlS,ZlV h1,ZlV (by rw[l2];exact h1),ZlV (by rw[l1];exact h1),<- ZlS,<- ZlS] at this
  exact this
 ·rw[ZlS,Zmc (by omega)]
  by_cases h2:i=Γ.length
  ·subst h2
   rw[ZlS,ZlZ (ZlY _)] at this
   simp only[Nat.sub_self,ZmV,Zne] at this
   exact this.1
  ·exact A.outF (by simp;omega)
theorem JY {wi:TI}{fi:List PV->Rr (List PV)} (hi:DIc K EX Γ Γ1 wi fi) (he:DE K EX (Γ1++[.S]) (Γ1++[.S]) .F te fe) :
  DE K EX Γ Γ1 .F (ZcU wi te) (fun ρ=>(fi ρ).bind fun xs=>(lenM xs).bind fun _=>(ZcN (fun x=>fe (ρ++[x])) xs).bind fun ys=>.ok (.lst ys)):=fun B H0 H σ ρ F R Q A d=>by
 refine hi B H0 H σ ρ F R _ A (d.bind.imp (fun xs _ d J H1 F1 s1 f1 A1 it=>?_) fun e q=>q)
 obtain⟨hlen,d⟩:=Dn.lenM d.bind
 refine⟨fun i m ys H2=>∃zs G F2,m=xs.length-i/\i<=xs.length/\ys.length=i/\Z6 H1 H2/\Trees K H2 zs ys G/\(∀a∈G,a ∉ R/\(H1 a=none\/∃j,a∈F1 j))/\(∀i,∀a∈F2 i,a∈F1 i)/\Ag K B H0 H2 σ Γ1 ρ F2 (G++R) /\
  Dn ((ZcN (fun x=>fe (ρ++[x])) (xs.drop i)).bind fun ys'=>.ok (.lst (zs++ys'))) (fun x=>∀v H',Z6 H H'->Res K B H0 H σ Γ1 ρ F R .F x v H'->Q v H') (fun e=>∀H',Z6 H0 H'->EX e H'),
  ⟨xs.length,[],[],F1,by simp,Zm9 _,rfl,Z6.refl _,⟨rfl,rfl⟩,by simp,fun _ _ h=>h,A1,by simpa using d⟩, ?_⟩
 rintro i m ys H2 ⟨zs,G,F2,rfl,hi',hl,s2,tr,o2,f2,A2,dn⟩
 refine⟨VU (by omega), ?_⟩
 have itp:=it H2 F2 s2 f2 i
 cases hx:xs[i]? with
 |none =>
  refine .inl ⟨itp.2 hx,fun p hp=>?_⟩
  have hd:xs.drop i=[]:=Zm3 (Zmz.mp hx)
  rw[hd] at dn
  have dn':∀v H',Z6 H H'->Res K B H0 H σ Γ1 ρ F R .F (.lst (zs++[])) v H'->Q v H':=dn
  rw[ZmF] at dn'
  exact dn' _ _ ((s1.trans s2).trans (Z6.new hp)) (Res.newF (s1.trans s2) (fun i a h=>f1 i a (f2 i a h)) tr (fun a ha=>⟨(o2 a ha).1,(o2 a ha).2.elim (fun z=>.inl (s1.free z)) fun⟨j,z⟩=>.inr ⟨j,f1 j a z⟩⟩) A2 hp)
 |some x =>
  have hlt:i<xs.length:=(Zms.mp hx).1
  obtain⟨go,yl⟩:=itp.1 x hx
  have hdx:xs.drop i=x::xs.drop (i+1):=by
   rw[Zm0 hlt]
   rw[ZlU hlt] at hx;cases hx;rfl
  rw[hdx] at dn
  simp only[ZcN,Rr.assoc] at dn
  refine .inr ⟨go,fun ys' H'=>∃zs G F2,ys'.length=i+1/\Z6 H1 H'/\Trees K H' zs ys' G/\(∀a∈G,a ∉ R/\(H1 a=none\/∃j,a∈F1 j))/\(∀i,∀a∈F2 i,a∈F1 i)/\Ag K B H0 H' σ Γ1 ρ F2 (G++R) /\
   Dn ((ZcN (fun x=>fe (ρ++[x])) (xs.drop (i+1))).bind fun ys'=>.ok (.lst (zs++ys'))) (fun x=>∀v H',Z6 H H'->Res K B H0 H σ Γ1 ρ F R .F x v H'->Q v H') (fun e=>∀H',Z6 H0 H'->EX e H'),
   fun ys' H' ⟨zs,G,F2,a1,a2,a3,a4,a5,a6,a7⟩=>⟨xs.length-(i+1),by omega,zs,G,F2,rfl,hlt,a1,a2,a3,a4,a5,a6,a7⟩,fun v H3 y=>?_⟩
  obtain⟨s3,rx⟩:=yl v H3 y
  have A3:=(A2.grow s3).push (x:=x) (v:=v) (Rep.mono (fun a us s r=>⟨r,s.1.1,fun z=>by
   rcases Zma.mp z with z|z
   ·rcases (o2 a z).2 with q|⟨j,q⟩
    ·exact s.2.1 q
    ·exact s.2.2 j q
   ·exact s.1.2.1 z,s.1.2.2⟩) (fun a us r=>r) rx)
  refine he B H0 H3 _ _ F2 (G++R) _ A3 (dn.bind.imp (fun z _ dn w H4 s4 r4=>?_) fun e q=>q)
  obtain⟨F4,f4,G4,t4,o4,A4⟩:=r4
  refine⟨zs++[z],G++G4,F4,by simp[hl],(s2.trans s3).trans s4,Trees.append ((tr.same s3).same s4) (Trees.one t4) (fun a ha z=>(o4 a z).1 (Zmb _ ha)),fun a ha=>?_,fun i a h=>f2 i a (f4 i a h),A4.pop.less fun a ha=>?_, ?_⟩
  ·rcases Zma.mp ha with z|z
   ·exact o2 a z
   ·refine⟨fun q=>(o4 a z).1 (ZlT _ q), ?_⟩
    rcases (o4 a z).2 with q|⟨j,q⟩
    ·exact .inl ((s2.trans s3).free q)
    ·exact .inr ⟨j,f2 j a q⟩
  ·simp only[Zma] at ha ⊢
   rcases ha with (z|z)|z
   ·exact .inr (.inl z)
   ·exact .inl z
   ·exact .inr (.inr z)
  ·simp only[Rr.assoc,Rr.bind_ok,Zno,Zna] at dn ⊢
   exact dn
end
inductive RS where
 |next (ρ:List PV)|ret (x:PV)|brk (ρ:List PV)|cont (ρ:List PV)|exc (e:PX)|bad
noncomputable def Rr.thenS {α:Type}:Rr α->(α->RS)->RS
 |.ok a,f=>f a
 |.exc e,_=>.exc e
 |.bad,_=>.bad
noncomputable def RS.seq:RS->(List PV->RS)->RS
 |.next ρ,f=>f ρ
 |r,_=>r
@[simp] theorem Rr.thenS_ok {α:Type}{a:α}{f:α->RS}:(Rr.ok a).thenS f=f a:=rfl
@[simp] theorem Rr.thenS_exc {α:Type}{e:PX}{f:α->RS}:(Rr.exc e:Rr α).thenS f=.exc e:=rfl
@[simp] theorem RS.seq_next {ρ:List PV}{f:List PV->RS}:(RS.next ρ).seq f=f ρ:=rfl
@[simp] theorem RS.seq_ret {x:PV}{f:List PV->RS}:(RS.ret x).seq f=.ret x:=rfl
@[simp] theorem RS.seq_exc {e:PX}{f:List PV->RS}:(RS.exc e).seq f=.exc e:=rfl
structure Tys where
 n:List Md
 b:List Md
 c:List Md
 r:Kd
def DnS (K:W.Frag) (B:Addr->Prop) (EX:PX->Hp->Prop) (Y:Tys) (H0 H:Hp) (F:Nat->List Addr) (D:ZdM) (r:RS):Prop:=match r with
 |.next ρ=>∀σ' H' F',Frm H F H' F'->Ag K B H0 H' σ' Y.n ρ F' []->D.nx σ' H'
 |.brk ρ=>∀σ' H' F',Frm H F H' F'->Ag K B H0 H' σ' Y.b ρ F' []->D.bk σ' H'
 |.cont ρ=>∀σ' H' F',Frm H F H' F'->Ag K B H0 H' σ' Y.c ρ F' []->D.ct σ' H'
 |.ret x=>∀v H',Z6 H0 H'->Zen K B H0 Y.r x v H'->D.rt v H'
 |.exc e=>∀H',Z6 H0 H'->EX e H'
 |.bad=>False
def DS (K:W.Frag) (EX:PX->Hp->Prop) (Γ:List Md) (Y:Tys) (t:TS) (g:List PV->RS):Prop:=
 ∀(B:Addr->Prop) (H0 H:Hp) (σ:St) (ρ:List PV) (F:Nat->List Addr) (D:ZdM),Ag K B H0 H σ Γ ρ F []->DnS K B EX Y H0 H F D (g ρ)->t D σ H
section
variable {K:W.Frag}{B:Addr->Prop}{EX:PX->Hp->Prop}{H0 H H':Hp}{σ:St}{Γ Γ' Γ1 Γ2 Γ3:List Md}{ρ:List PV}{F F':Nat->List Addr}{R:List Addr}{k:Kd}{x:PV}{v:V}{te:TE}{f fc:List PV->Rr PV}{t u:TS}{g g':List PV->RS}{Y:Tys}{D:ZdM}
theorem DnS.shift {H1:Hp}{F1:Nat->List Addr}{r:RS} (fr:Frm H F H1 F1) (h:DnS K B EX Y H0 H F D r):DnS K B EX Y H0 H1 F1 D r:=by
 cases r with
 |next ρ=>exact fun σ' H' F' fr' A=>h σ' H' F' (fr.trans fr') A
 |brk ρ=>exact fun σ' H' F' fr' A=>h σ' H' F' (fr.trans fr') A
 |cont ρ=>exact fun σ' H' F' fr' A=>h σ' H' F' (fr.trans fr') A
 |ret x=>exact h
 |exc e=>exact h
 |bad=>exact h
theorem DnS.thenS {α:Type}{r:Rr α}{f:α->RS} (h:DnS K B EX Y H0 H F D (r.thenS f)):Dn r (fun a=>DnS K B EX Y H0 H F D (f a)) (fun e=>∀H',Z6 H0 H'->EX e H'):=by
 cases r with
 |ok a=>exact h
 |exc e=>exact h
 |bad=>exact h
theorem ZC:DS K EX Γ ⟨Γ,Γ1,Γ2,k⟩ Zf5 (fun ρ=>.next ρ):=fun B H0 H σ ρ F D A d=>d σ H F Frm.refl A
theorem Zl {Γm:List Md} (h1:DS K EX Γ ⟨Γm,Y.b,Y.c,Y.r⟩ t g) (h2:DS K EX Γm Y u g'):DS K EX Γ Y (Zh0 t u) (fun ρ=>(g ρ).seq g'):=fun B H0 H σ ρ F D A d=>by
 refine h1 B H0 H σ ρ F _ A ?_
 dsimp only at d
 cases e:g ρ with
 |next ρ1 =>
  rw[e] at d
  exact fun σ' H' F' fr A'=>h2 B H0 H' σ' ρ1 F' D A' (DnS.shift fr d)
 |brk ρ1=>rw[e] at d;exact d
 |cont ρ1=>rw[e] at d;exact d
 |ret x=>rw[e] at d;exact d
 |exc q=>rw[e] at d;exact d
 |bad=>rw[e] at d;exact d
noncomputable def mle (m m':Md):Bool:=m==m' || m'==.U || (m'==.S&&m != .U) || (m'==.O&&m==.P)
noncomputable def Zea:List Md->List Md->Bool
 |[],[]=>true
 |m::ms,m'::ms'=>mle m m'&&Zea ms ms'
 |_,_=>false
theorem Za8:∀{Γ Γ':List Md},Zea Γ Γ'=true->Γ.length=Γ'.length/\∀i,mle (Γ.getD i .U) (Γ'.getD i .U)=true
 |[],[],_=>⟨rfl,fun i=>by simp[mle]⟩
 |m::ms,m'::ms',h=>by
  simp only[Zea,Bool.and_eq_true] at h
  obtain⟨h1,h2⟩:=Za8 h.2
  refine⟨by simp[h1],fun i=>?_⟩
  cases i with
  |zero=>simpa using h.1
  |succ i=>simpa using h2 i
 |[],_::_,h=>by cases h
 |_::_,[],h=>by cases h
theorem Ag.weak (A:Ag K B H0 H σ Γ ρ F R) (h:Zea Γ Γ'=true):∃F',(∀i,∀a∈F' i,a∈F i)/\Ag K B H0 H σ Γ' ρ F' R:=by
 obtain⟨hl,hm⟩:=Za8 h
 let F':Nat->List Addr:=fun i=>if Γ.getD i .U=Γ'.getD i .U then F i else []
 have hF:∀i,∀a∈F' i,a∈F i:=fun i a ha=>by
  by_cases q:Γ.getD i .U=Γ'.getD i .U
  ·simp only[F',if_pos q] at ha;exact ha
  ·simp only[F',if_neg q] at ha;simp at ha
 have up:∀{a},NO B F R a->NO B F' R a:=fun {a} s=>⟨s.1,s.2.1,fun j z=>s.2.2 j (hF j a z)⟩
 refine⟨F',hF,A.same,A.own,fun i a ha=>A.young i a (hF i a ha),A.youngR,fun i a ha=>A.live i a (hF i a ha),A.liveR,fun i j hij a ha z=>A.disj i j hij a (hF i a ha) (hF j a z),fun i a ha=>A.disjR i a (hF i a ha),by rw[A.lenS,hl],by rw[A.lenR,hl],fun i=>?_⟩
 have sl:=A.slot i
 have hmi:=hm i
 by_cases q:Γ.getD i .U=Γ'.getD i .U
 ·simp only[F',if_pos q]
  rw[<- q]
  exact sl.mono (fun a vs s r=>⟨r,up s⟩) (fun a vs r=>r) fun a ha vs r=>r
 ·simp only[F',if_neg q]
  simp only[mle,Bool.or_eq_true,beq_iff_eq,Bool.and_eq_true,bne_iff_ne] at hmi
  rcases hmi with ((z|z)|z)|z
  ·exact absurd z q
  ·rw[z];exact rfl
  rotate_left
  ·rw[z.1]
   rw[z.2] at sl
   obtain⟨e,v,h1,h2,h3⟩:=sl
   exact⟨v,h1,h3.tree h2⟩
  ·rw[z.1]
   have own:∀a∈F i,NO B F' R a:=fun a ha=>⟨A.own a (A.young i a ha),A.disjR i a ha,fun j w=>by
    by_cases hj:j=i
    ·subst hj;simp only[F',if_neg q] at w;simp at w
    ·exact A.disj j i hj a (hF j a w) ha⟩
   cases hmm:Γ.getD i .U with
   |U=>exact absurd hmm z.2
   |P=>rw[hmm] at sl;obtain⟨e,v,h1,h2,h3⟩:=sl;exact⟨rfl,v,h1,h3.flatS h2⟩
   |S=>rw[hmm] at sl;obtain⟨e,v,h1,h2⟩:=sl;exact⟨rfl,v,h1,Rep.mono (fun a vs s r=>⟨r,up s⟩) (fun a vs r=>r) h2⟩
   |T =>
    rw[hmm] at sl
    obtain⟨a,vs,xs,h1,h2,h3,h4,h5⟩:=sl
    refine⟨rfl,_,h1, ?_⟩
    rw[h2]
    exact⟨a,vs,rfl,.inl ⟨.inl h3,own a (by rw[h5];simp)⟩,Reps.mono (fun a vs s r=>⟨r,up s⟩) (fun a vs r=>r) h4⟩
   |O=>rw[hmm] at sl;obtain⟨v,h1,h2⟩:=sl;exact⟨rfl,v,h1,h2.rep own⟩
theorem DS.out {Y':Tys} (h:DS K EX Γ Y t g) (hn:Zea Y.n Y'.n=true) (hb:Zea Y.b Y'.b=true) (hc:Zea Y.c Y'.c=true) (hr:Y.r=Y'.r):DS K EX Γ Y' t g:=fun B H0 H σ ρ F D A d=>by
 refine h B H0 H σ ρ F D A ?_
 cases e:g ρ with
 |next ρ1=>rw[e] at d;exact fun σ' H' F' fr A'=>let ⟨F2,f2,A2⟩:=A'.weak hn;d σ' H' F2 (fr.trans (Frm.of (Z6.refl _) f2)) A2
 |brk ρ1=>rw[e] at d;exact fun σ' H' F' fr A'=>let ⟨F2,f2,A2⟩:=A'.weak hb;d σ' H' F2 (fr.trans (Frm.of (Z6.refl _) f2)) A2
 |cont ρ1=>rw[e] at d;exact fun σ' H' F' fr A'=>let ⟨F2,f2,A2⟩:=A'.weak hc;d σ' H' F2 (fr.trans (Frm.of (Z6.refl _) f2)) A2
 |ret x=>rw[e] at d;exact fun v H' s r=>d v H' s (hr▸r)
 |exc q=>rw[e] at d;exact d
 |bad=>rw[e] at d;exact d
theorem QW {H1:Hp}{F1:Nat->List Addr}{i:Nat}{G:List Addr} (s1:Z6 H H1) (f1:∀i,∀a∈F1 i,a∈F i) (o:∀a∈G,H a=none\/∃i,a∈F i):Frm H F H1 (Uz F1 i G):=fun a u h n=>by
 refine⟨s1 a u h,fun j z=>?_⟩
 by_cases q:j=i
 ·subst q
  rw[Zs] at z
  rcases o a z with w|⟨l,w⟩
  ·rw[h] at w;cases w
  ·exact n l w
 ·rw[ZA q] at z;exact n j (f1 j a z)
theorem Ji {i:Nat} (he:DE K EX Γ Γ' .P te f) (hi:i<Γ'.length):DS K EX Γ ⟨Γ'.set i .P,Γ1,Γ2,k⟩ (Zf7 te (UW i)) (fun ρ=>(f ρ).thenS fun x=>.next (ρ.set i x)):=fun B H0 H σ ρ F D A d=>by
 refine he B H0 H σ ρ F [] _ A (d.thenS.imp (fun x _ d v H1 s1 r1=>?_) fun e q=>q)
 obtain⟨F1,f1,h1,h2,A1⟩:=r1
 exact d _ H1 _ (QW (G:=[]) s1 f1 (by simp)) (Ag.put (G:=[]) (R:=[]) A1 hi (by simp) ⟨rfl,v,rfl,h1,h2⟩)
theorem ZU {i:Nat} (he:DE K EX Γ Γ' .F te f) (hi:i<Γ'.length):DS K EX Γ ⟨Γ'.set i .O,Γ1,Γ2,k⟩ (Zf7 te (UW i)) (fun ρ=>(f ρ).thenS fun x=>.next (ρ.set i x)):=fun B H0 H σ ρ F D A d=>by
 refine he B H0 H σ ρ F [] _ A (d.thenS.imp (fun x _ d v H1 s1 r1=>?_) fun e q=>q)
 obtain⟨F1,f1,G,h1,h2,A1⟩:=r1
 exact d _ H1 _ (QW s1 f1 fun a ha=>(h2 a ha).2) (Ag.put (R:=[]) A1 hi (by simp) ⟨v,rfl,h1⟩)
theorem Zc4 (he:DE K EX Γ Γ' .A te f):DS K EX Γ ⟨Γ',Γ1,Γ2,k⟩ (Zb1 te) (fun ρ=>(f ρ).thenS fun _=>.next ρ):=fun B H0 H σ ρ F D A d=>by
 refine he B H0 H σ ρ F [] _ A (d.thenS.imp (fun x _ d v H1 s1 r1=>?_) fun e q=>q)
 obtain⟨F1,f1,h1,A1⟩:=r1
 exact d σ H1 F1 (Frm.of s1 f1) A1
theorem ZK (he:DE K EX Γ Γ' .P te f):DS K EX Γ ⟨Γ3,Γ1,Γ2,.P⟩ (ZgW te) (fun ρ=>(f ρ).thenS fun x=>.ret x):=fun B H0 H σ ρ F D A d=>by
 refine he B H0 H σ ρ F [] _ A (d.thenS.imp (fun x _ d v H1 s1 r1=>?_) fun e q=>q)
 obtain⟨F1,f1,h1,h2,A1⟩:=r1
 exact d v H1 A1.same ⟨h1,h2⟩
theorem Jc (he:DE K EX Γ Γ' .F te f):DS K EX Γ ⟨Γ3,Γ1,Γ2,.F⟩ (ZgW te) (fun ρ=>(f ρ).thenS fun x=>.ret x):=fun B H0 H σ ρ F D A d=>by
 refine he B H0 H σ ρ F [] _ A (d.thenS.imp (fun x _ d v H1 s1 r1=>?_) fun e q=>q)
 obtain⟨F1,f1,G,h1,h2,A1⟩:=r1
 exact d v H1 A1.same ⟨G,h1,fun a ha=>A1.youngR a (by simpa using ha)⟩
theorem Jm {c:TT}{fc:List PV->Rr Bool} (hc:DT K EX Γ Γ' c fc) (h1:DS K EX Γ' Y t g) (h2:DS K EX Γ' Y u g'):DS K EX Γ Y (Zh3 c t u) (fun ρ=>(fc ρ).thenS fun b=>if b=true then g ρ else g' ρ):=fun B H0 H σ ρ F D A d=>by
 refine hc B H0 H σ ρ F [] _ A (d.thenS.imp (fun b _ d H1 F1 s1 f1 A1=>?_) fun e q=>q)
 cases b with
 |true=>exact h1 B H0 H1 σ ρ F1 D A1 (DnS.shift (Frm.of s1 f1) d)
 |false=>exact h2 B H0 H1 σ ρ F1 D A1 (DnS.shift (Frm.of s1 f1) d)
theorem QZ {i:Nat}{h:Int->Int->Int} (hm:Γ[i]?=some .P) (he:DE K EX Γ Γ .A te f):DS K EX Γ ⟨Γ,Γ1,Γ2,k⟩ (Zh6 i te (ipI h)) (fun ρ=>(f ρ).thenS fun y=>(oI (fun _ _=>true) (fun i j=>.int (h i j)) (gv i ρ) y).thenS fun z=>.next (ρ.set i z)):=fun B H0 H σ ρ F D A d=>by
 obtain⟨v,h1,h2,h3⟩:=A.getP hm
 refine⟨v,h1,he B H0 H σ ρ F [] _ A (d.thenS.imp (fun y _ d w H1 s1 r1=>?_) fun e q=>q)⟩
 obtain⟨F1,f1,p1,A1⟩:=r1
 have h3':=h3.same s1
 change Rep K H1 _ (gv i ρ) v at h3'
 generalize gv i ρ=gx at h3' d
 cases gx<;>cases y<;>first|(exact d.elim;done)|skip
 rename_i p q _
 cases h3';cases p1
 refine⟨p,q,rfl,rfl,d _ H1 _ (QW (i:=i) (G:=[]) s1 f1 (by simp)) ?_⟩
 have:=Ag.put (i:=i) (m:=.P) (x:=.int (h p q)) (v:=.int (h p q)) (G:=[]) (R:=[]) A1 (A.lt hm) (by simp) ⟨rfl,_,rfl,rfl,rfl⟩
 have e:Γ.set i .P=Γ:=by
  apply ZmX
  intro j
  by_cases q:i=j
  ·subst q;rw[Zmo (A.lt hm),hm]
  ·rw[Zmt q]
 rw[e] at this
 exact this
variable {ti:TE}{fi:List PV->Rr PV}
theorem Ag.chgB {i:Nat}{m:Md}{a:Addr}{o':HO} (ho:Lvo o') {x':PV}{G G':List Addr} (A:Ag K B H0 H σ Γ ρ F (G++R)) (hm:Γ[i]?=some m) (ha:a∈F i) (hG:∀b∈G',b∈F i\/b∈G) (hGR:∀b∈G,b ∉ R)
  (hs:VJ K (upd H a o') (NO B (Uz F i G') R) m x' σ[i]? G'):Ag K B H0 (upd H a o') σ Γ (ρ.set i x') (Uz F i G') R:=by
 obtain⟨us,hH⟩:=A.live i a ha
 have hi:=A.lt hm
 have liveU:∀b,(∃us:LvO,H b=some us.1)->∃us:LvO,upd H a o' b=some us.1:=fun b ⟨us,q⟩=>by
  by_cases e:b=a
  ·exact⟨⟨o',ho⟩,by rw[e,ZO]⟩
  ·exact⟨us,by rw[Z1 e];exact q⟩
 refine⟨A.same.upd (A.young i a ha),A.own,fun j b hb=>?_,fun b hb=>A.youngR b (ZlT _ hb),fun j b hb=>liveU b ?_,fun b hb=>liveU b (A.liveR b (ZlT _ hb)),fun j l hjl b hb z=>?_,fun j b hb z=>?_,A.lenS,by simp[A.lenR],fun j=>?_⟩
 ·by_cases q:j=i
  ·subst q;rw[Zs] at hb
   rcases hG b hb with z|z
   ·exact A.young j b z
   ·exact A.youngR b (Zmb _ z)
  ·rw[ZA q] at hb;exact A.young j b hb
 ·by_cases q:j=i
  ·subst q;rw[Zs] at hb
   rcases hG b hb with z|z
   ·exact A.live j b z
   ·exact A.liveR b (Zmb _ z)
  ·rw[ZA q] at hb;exact A.live j b hb
 ·by_cases q:j=i
  ·subst q
   rw[Zs] at hb
   rw[ZA (Ne.symm hjl)] at z
   rcases hG b hb with w|w
   ·exact A.disj j l hjl b w z
   ·exact A.disjR l b z (Zmb _ w)
  ·rw[ZA q] at hb
   by_cases q':l=i
   ·subst q'
    rw[Zs] at z
    rcases hG b z with w|w
    ·exact A.disj j l hjl b hb w
    ·exact A.disjR j b hb (Zmb _ w)
   ·rw[ZA q'] at z;exact A.disj j l hjl b hb z
 ·by_cases q:j=i
  ·subst q;rw[Zs] at hb
   rcases hG b hb with w|w
   ·exact A.disjR j b w (ZlT _ z)
   ·exact hGR b w z
  ·rw[ZA q] at hb;exact A.disjR j b hb (ZlT _ z)
 ·by_cases q:j=i
  ·subst q
   rw[Zs,ZlS,ZlS,hm,Zmo (by rw[A.lenR];exact hi)]
   exact hs
  ·rw[ZA q,ZlS (l:=ρ.set _ _),Zmt (Ne.symm q),<- ZlS]
   refine(A.slot j).mono (fun b us s r=>?_) (fun b us r=>Im.putL hH r) fun b hb us r=>?_
   ·have hne:b≠a:=fun z=>s.2.2 i (z▸ha)
    refine⟨?_,s.1,fun z=>s.2.1 (ZlT _ z),fun l z=>?_⟩
    ·rcases r with r|⟨o,r⟩
     ·exact .inl (by rw[Z1 hne];exact r)
     ·exact .inr ⟨o,by rw[Z1 hne];exact r⟩
    ·by_cases q':l=i
     ·subst q';rw[Zs] at z
      rcases hG b z with w|w
      ·exact s.2.2 l w
      ·exact s.2.1 (Zmb _ w)
     ·rw[ZA q'] at z;exact s.2.2 l z
   ·have hne:b≠a:=fun z=>A.disj j i q b hb (z▸ha)
    rw[Z1 hne];exact r
theorem Ag.chg {i:Nat}{m:Md}{a:Addr}{vs':List V}{x':PV}{G G':List Addr} (A:Ag K B H0 H σ Γ ρ F (G++R)) (hm:Γ[i]?=some m) (ha:a∈F i) (hG:∀b∈G',b∈F i\/b∈G) (hGR:∀b∈G,b ∉ R)
  (hs:VJ K (upd H a (.lst vs')) (NO B (Uz F i G') R) m x' σ[i]? G'):Ag K B H0 (upd H a (.lst vs')) σ Γ (ρ.set i x') (Uz F i G') R:=Ag.chgB (o':=.lst vs') trivial A hm ha hG hGR hs
theorem Uq {H1:Hp}{F1:Nat->List Addr}{i:Nat}{a:Addr}{o:HO}{G':List Addr} (s1:Z6 H H1) (f1:∀i,∀b∈F1 i,b∈F i) (ha:a∈F1 i) (hG:∀b∈G',H b=none\/∃j,b∈F j):Frm H F (upd H1 a o) (Uz F1 i G'):=fun b u h n=>by
 have hne:b≠a:=fun z=>n i (f1 i b (z▸ha))
 refine⟨by rw[Z1 hne];exact s1 b u h,fun j z=>?_⟩
 by_cases q:j=i
 ·subst q;rw[Zs] at z
  rcases hG b z with w|⟨l,w⟩
  ·rw[h] at w;cases w
  ·exact n l w
 ·rw[ZA q] at z;exact n j (f1 j b z)
theorem Trees.setP:∀{xs:List PV}{vs:List V}{G:List Addr}{j:Nat}{y:PV}{w:V},Trees K H xs vs G->JB K H y w []->∃G',(∀a∈G',a∈G)/\Trees K H (xs.set j y) (vs.set j w) G'
 |[],_,_,_,_,_,h,_=>⟨[],by simp,by rw[h.1];exact⟨rfl,rfl⟩⟩
 |x::xs,_,_,0,y,w,h,h'=>by
  obtain⟨v,r,G1,G2,rfl,h1,h2,h3,rfl⟩:=h
  exact⟨G2,fun a ha=>by simp[ha],w,r,[],G2,rfl,h',h2,by simp,rfl⟩
 |x::xs,_,_,j+1,y,w,h,h'=>by
  obtain⟨v,r,G1,G2,rfl,h1,h2,h3,rfl⟩:=h
  obtain⟨G',h4,h5⟩:=Trees.setP (j:=j) h2 h'
  refine⟨G1++G',fun a ha=>?_,v,r.set j w,G1,G',rfl,h1,h5,fun a ha z=>h3 a ha (h4 a z),rfl⟩
  rcases Zma.mp ha with z|z
  ·simp[z]
  ·simp[h4 a z]
noncomputable def pSet (x i y:PV):Rr PV:=match x,i with
 |.lst xs,.int j=>match ixN xs.length j with
  |some n=>.ok (.lst (xs.set n y))
  |none=>.bad
 |_,_=>.bad
theorem Dn.pSet {x i y:PV}{ok:PV->Prop}{ex:PX->Prop} (d:Dn (pSet x i y) ok ex):∃xs j n,x=.lst xs/\i=.int j/\ixN xs.length j=some n/\ok (.lst (xs.set n y)):=by
 unfold L2.pSet at d
 split at d
 ·rename_i xs j
  cases e:ixN xs.length j with
  |none=>rw[e] at d;exact d.elim
  |some n=>rw[e] at d;exact⟨xs,j,n,rfl,rfl,e,d⟩
 ·exact d.elim
theorem J9 {i:Nat} (hm:Γ2[i]?=some .O) (he:DE K EX Γ Γ2 .P te f) (hi:DE K EX Γ2 Γ2 .A ti fi) :
  DS K EX Γ ⟨Γ2,Γ1,Γ3,k⟩ (Zf7 te (ZhJ (Zbl i) ti Ze3)) (fun ρ=>(f ρ).thenS fun y=>(fi ρ).thenS fun j=>(pSet (gv i ρ) j y).thenS fun z=>.next (ρ.set i z)):=fun B H0 H σ ρ F D A d=>by
 refine he B H0 H σ ρ F [] _ A (d.thenS.imp (fun y _ d w H1 s1 r1=>?_) fun e q=>q)
 obtain⟨F1,f1,y1,y2,A1⟩:=r1
 obtain⟨v,h1,h2⟩:=A1.getO hm
 refine⟨v,h1,hi B H0 H1 σ ρ F1 [] _ A1 (d.thenS.imp (fun j _ d jv H2 s2 r2=>?_) fun e q=>q)⟩
 obtain⟨F2,f2,p2,A2⟩:=r2
 obtain⟨xs,jj,n,e1,rfl,e2,d⟩:=Dn.pSet d.thenS
 obtain⟨v',h1',h2'⟩:=A2.getO hm
 rw[h1] at h1';cases h1'
 rw[show ρ.getD i .non=.lst xs from e1] at h2'
 obtain⟨a,vs,G,rfl,hH,ht,hn,hF⟩:=h2'
 cases p2
 refine⟨a,vs,jj,n,rfl,rfl,hH,by rw[ht.length];exact e2, ?_⟩
 obtain⟨G',g1,g2⟩:=Trees.setP (j:=n) ht ((y2.same s2).tree y1)
 have haF:a∈F2 i:=by rw[hF];simp
 have hsub:∀b∈a::G',b∈F2 i:=fun b hb=>by
  rw[hF]
  rcases Zmf.mp hb with rfl|hb
  ·simp
  ·simp[g1 b hb]
 refine d σ _ (Uz F2 i (a::G')) (Uq (s1.trans s2) (fun j b hb=>f1 j b (f2 j b hb)) haF fun b hb=>.inr ⟨i,f1 i b (f2 i b (hsub b hb))⟩) (Ag.chg (G:=[]) A2 hm haF (fun b hb=>.inl (hsub b hb)) (by simp) ?_)
 exact⟨_,h1,a,_,G',rfl,ZO,g2.put hH (fun z=>hn (g1 a z)),fun z=>hn (g1 a z),rfl⟩
noncomputable def pApp (x y:PV):Rr PV:=match x with
 |.lst xs=>if xs.length<1000000 then .ok (.lst (xs++[y])) else .bad
 |_=>.bad
theorem Dn.pApp {x y:PV}{ok:PV->Prop}{ex:PX->Prop} (d:Dn (pApp x y) ok ex):∃xs,x=.lst xs/\xs.length<1000000/\ok (.lst (xs++[y])):=by
 unfold L2.pApp at d
 split at d
 ·rename_i xs
  by_cases h:xs.length<1000000
  ·rw[if_pos h] at d;exact⟨xs,rfl,h,d⟩
  ·rw[if_neg h] at d;exact d.elim
 ·exact d.elim
theorem Dn.asL {x:PV}{ok:List PV->Prop}{ex:PX->Prop} (d:Dn (asL x) ok ex):∃xs,x=.lst xs/\ok xs:=by
 cases x with
 |lst xs=>exact⟨xs,rfl,d⟩
 |_=>exact d.elim
theorem Zc5 {i:Nat} (hm:Γ[i]?=some .O) (hm2:Γ2[i]?=some .O) (he:DE K EX Γ Γ2 .F te f) :
  DS K EX Γ ⟨Γ2,Γ1,Γ3,k⟩ (Zb1 (tBM K "list" QN (Zbl i) (UI te Zet))) (fun ρ=>(asL (gv i ρ)).thenS fun xs=>(f ρ).thenS fun y=>(pApp (.lst xs) y).thenS fun z=>.next (ρ.set i z)):=fun B H0 H σ ρ F D A d=>by
 obtain⟨v,h1,h2⟩:=A.getO hm
 refine⟨v,h1, ?_⟩
 obtain⟨xs,e1,d⟩:=Dn.asL d.thenS
 rw[show ρ.getD i .non=.lst xs from e1] at h2
 obtain⟨a,vs,G,rfl,hH,ht,hn,hF⟩:=h2
 refine⟨.inl ⟨rfl,_,SqL.of hH⟩,he B H0 H σ ρ F [] _ A (d.thenS.imp (fun y _ d w H2 s2 r2=>?_) fun e q=>q)⟩
 obtain⟨F2,f2,G2,y1,y2,A2⟩:=r2
 obtain⟨xs',e2,hlen,d⟩:=Dn.pApp d.thenS
 cases e2
 obtain⟨v',h1',h2'⟩:=A2.getO hm2
 rw[h1] at h1';cases h1'
 rw[show ρ.getD i .non=.lst xs from e1] at h2'
 obtain⟨a',vs',G',e,hH',ht',hn',hF'⟩:=h2'
 cases e
 refine⟨a,vs',w,rfl,rfl,hH',by rw[ht'.length];exact ZlX hlen (by decide), ?_⟩
 have haF:a∈F2 i:=by rw[hF'];simp
 have dj:∀b∈G',b ∉ G2:=fun b hb z=>A2.disjR i b (by rw[hF'];simp[hb]) (Zmb _ z)
 have na:a ∉ G2:=fun z=>A2.disjR i a haF (Zmb _ z)
 have hsub:∀b∈a::(G'++G2),b∈F2 i\/b∈G2:=fun b hb=>by
  rw[hF']
  rcases Zmf.mp hb with rfl|hb
  ·simp
  ·rcases Zma.mp hb with z|z
   ·simp[z]
   ·exact .inr z
 have hna:a ∉ G'++G2:=fun z=>(Zma.mp z).elim hn' na
 refine d σ _ (Uz F2 i (a::(G'++G2))) (Uq s2 f2 haF fun b hb=>?_) (Ag.chg (G:=G2) (R:=[]) A2 hm2 haF hsub (by simp) ?_)
 ·rcases hsub b hb with z|z
  ·exact .inr ⟨i,f2 i b z⟩
  ·exact(y2 b z).2
 ·exact⟨_,h1,a,_,G'++G2,rfl,ZO,(Trees.append ht' (Trees.one y1) dj).put hH' hna,hna,rfl⟩
def DG (K:W.Frag) (EX:PX->Hp->Prop) (Γ Γ':List Md) (g:TG) (h:PV->List PV->Rr (List PV)):Prop:=
 ∀(B:Addr->Prop) (H0 H:Hp) (σ:St) (ρ:List PV) (F:Nat->List Addr) (v:V) (x:PV) (N:St->Hp->Prop),Ag K B H0 H σ Γ ρ F []->Rep K H (NO B F []) x v ->
  Dn (h x ρ) (fun ρ'=>∀σ' F',(∀i,∀a∈F' i,a∈F i)->Ag K B H0 H σ' Γ' ρ' F' []->N σ' H) (fun e=>∀H',Z6 H0 H'->EX e H')->g v σ H N
theorem Zfb {i:Nat} (hi:i<Γ.length):DG K EX Γ (Γ.set i .P) (UW i) (fun x ρ=>(grd x).bind fun x=>.ok (ρ.set i x)):=fun B H0 H σ ρ F v x N A r d=>by
 unfold grd at d;dsimp only at d
 by_cases h:x.flat=true
 ·rw[if_pos h] at d
  exact d _ (Uz F i []) UR (Ag.put (G:=[]) (R:=[]) A hi (by simp) ⟨rfl,v,rfl,h,r.any⟩)
 ·rw[if_neg h] at d;exact d.elim
noncomputable def asT (n:Nat) (x:PV):Rr (List PV):=match x with
 |.tup xs=>if xs.length=n then .ok xs else .bad
 |_=>.bad
end
noncomputable def RS.turn:RS->(List PV->RS)->RS
 |.next ρ,f=>f ρ
 |.cont ρ,f=>f ρ
 |.brk ρ,_=>.next ρ
 |r,_=>r
noncomputable def U2 (b:PV->List PV->RS):List PV->List PV->RS
 |[],ρ=>.next ρ
 |x::xs,ρ=>(b x ρ).turn (U2 b xs)
noncomputable def JN (c:List PV->Rr Bool) (b:List PV->RS):Nat->List PV->Option RS
 |0,_=>none
 |n+1,ρ=>match c ρ with
  |.ok true=>match b ρ with
   |.next ρ'=>JN c b n ρ'
   |.cont ρ'=>JN c b n ρ'
   |.brk ρ'=>some (.next ρ')
   |r=>some r
  |.ok false=>some (.next ρ)
  |.exc e=>some (.exc e)
  |.bad=>some .bad
open Classical in
noncomputable def JI (c:List PV->Rr Bool) (b:List PV->RS) (ρ:List PV):RS:=if h:∃n r,JN c b n ρ=some r then h.choose_spec.choose else .bad
theorem JX {c:List PV->Rr Bool}{b:List PV->RS}:∀{n m:Nat}{ρ:List PV}{r:RS},n<=m->JN c b n ρ=some r->JN c b m ρ=some r
 |0,_,_,_,_,h=>by cases h
 |n+1,0,_,_,hl,_=>by omega
 |n+1,m+1,ρ,r,hl,h=>by
  unfold JN at h ⊢
  cases hc:c ρ with
  |ok b' =>
   cases b' with
   |true =>
    rw[hc] at h
    cases hb:b ρ with
    |next ρ'=>rw[hb] at h;exact JX (by omega) h
    |cont ρ'=>rw[hb] at h;exact JX (by omega) h
    |brk ρ'=>rw[hb] at h;exact h
    |ret x=>rw[hb] at h;exact h
    |exc e=>rw[hb] at h;exact h
    |bad=>rw[hb] at h;exact h
   |false=>rw[hc] at h;exact h
  |exc e=>rw[hc] at h;exact h
  |bad=>rw[hc] at h;exact h
theorem Zcv {c:List PV->Rr Bool}{b:List PV->RS}{n m:Nat}{ρ:List PV}{r r':RS} (h:JN c b n ρ=some r) (h':JN c b m ρ=some r'):r=r':=by
 rcases Nat.le_total n m with q|q
 ·have:=JX q h;rw[h'] at this;exact(Option.some.inj this).symm
 ·have:=JX q h';rw[h] at this;exact Option.some.inj this
theorem Qe {c:List PV->Rr Bool}{b:List PV->RS}{n:Nat}{ρ:List PV}{r:RS} (h:JN c b n ρ=some r):JI c b ρ=r:=by
 unfold JI
 have hx:∃n r,JN c b n ρ=some r:=⟨n,r,h⟩
 rw[dif_pos hx]
 exact Zcv hx.choose_spec.choose_spec h
section
variable {K:W.Frag}{B:Addr->Prop}{EX:PX->Hp->Prop}{H0 H H':Hp}{σ:St}{Γ Γ1 Γ2 Γ3 Γl Γt:List Md}{ρ:List PV}{F F':Nat->List Addr}{k:Kd}{x:PV}{v:V}{te ti:TE}{f fc fe:List PV->Rr PV}{t u:TS}{g:List PV->RS}{D:ZdM}
theorem Uu {wi:TI}{gt:TG}{fi:List PV->Rr (List PV)}{h:PV->List PV->Rr (List PV)} (hi:DI K EX Γ Γ1 wi fi) (hw:Zea Γ1 Γl=true) (hg:DG K EX Γl Γt gt h) (hb:DS K EX Γt ⟨Γl,Γl,Γl,k⟩ t g) :
  DS K EX Γ ⟨Γl,Γ2,Γ3,k⟩ (Zh4 wi gt t) (fun ρ=>(fi ρ).thenS fun xs=>U2 (fun x ρ=>(h x ρ).thenS g) xs ρ):=fun B H0 H σ ρ F D A d=>by
 refine hi B H0 H σ ρ F [] _ A (d.thenS.imp (fun xs _ d J H1 F1 s1 f1 A1 it=>?_) fun e q=>q)
 obtain⟨Fl,fl,Al⟩:=A1.weak hw
 have fr0:Frm H F H1 Fl:=Frm.of s1 fun j a ha=>f1 j a (fl j a ha)
 have fr1:Frm H1 F1 H1 Fl:=Frm.of (Z6.refl _) fl
 refine⟨fun i m σ' H'=>∃ρ' F',m=xs.length-i/\i<=xs.length/\Frm H1 F1 H' F'/\Ag K B H0 H' σ' Γl ρ' F' []/\DnS K B EX ⟨Γl,Γ2,Γ3,k⟩ H0 H' F' D (U2 (fun x ρ=>(h x ρ).thenS g) (xs.drop i) ρ'),
  ⟨xs.length,ρ,Fl,by simp,Zm9 _,fr1,Al,by simpa using DnS.shift fr0 d⟩, ?_⟩
 rintro i m σ' H' ⟨ρ',F',rfl,hi',fr,A',dn⟩
 have itp:=it H' F' fr i
 cases hx:xs[i]? with
 |none =>
  refine .inl ⟨itp.2 hx, ?_⟩
  have hd:xs.drop i=[]:=Zm3 (Zmz.mp hx)
  rw[hd] at dn
  exact dn σ' H' F' Frm.refl A'
 |some x =>
  have hlt:i<xs.length:=(Zms.mp hx).1
  obtain⟨go,yl⟩:=itp.1 x hx
  have hdx:xs.drop i=x::xs.drop (i+1):=by
   rw[Zm0 hlt]
   rw[ZlU hlt] at hx;cases hx;rfl
  rw[hdx] at dn
  simp only[U2] at dn
  refine .inr ⟨go,fun σ2 H2=>∃ρ2 F2,Frm H1 F1 H2 F2/\Ag K B H0 H2 σ2 Γl ρ2 F2 []/\DnS K B EX ⟨Γl,Γ2,Γ3,k⟩ H0 H2 F2 D (U2 (fun x ρ=>(h x ρ).thenS g) (xs.drop (i+1)) ρ2),
   fun σ2 H2 ⟨ρ2,F2,a1,a2,a3⟩=>⟨xs.length-(i+1),by omega,ρ2,F2,rfl,hlt,a1,a2,a3⟩,fun v H3 y=>?_⟩
  obtain⟨s3,rx⟩:=yl v H3 y
  have fr3:Frm H' F' H3 F':=Frm.of s3 fun _ _ h=>h
  refine hg B H0 H3 σ' ρ' F' v x _ (A'.grow s3) (Rep.mono (fun a us s r=>⟨r,s.1⟩) (fun a us r=>r) rx) ?_
  cases e:h x ρ' with
  |ok ρt =>
   rw[e] at dn
   refine fun σt Ft ft At=>hb B H0 H3 σt ρt Ft _ At ?_
   have frt:Frm H' F' H3 Ft:=Frm.of s3 ft
   simp only[Rr.thenS_ok] at dn
   cases e2:g ρt with
   |next ρ2=>rw[e2] at dn;exact fun σ2 H2 F2 fr2 A2=>⟨ρ2,F2,fr.trans (frt.trans fr2),A2,DnS.shift (frt.trans fr2) dn⟩
   |cont ρ2=>rw[e2] at dn;exact fun σ2 H2 F2 fr2 A2=>⟨ρ2,F2,fr.trans (frt.trans fr2),A2,DnS.shift (frt.trans fr2) dn⟩
   |brk ρ2=>rw[e2] at dn;exact fun σ2 H2 F2 fr2 A2=>dn σ2 H2 F2 (frt.trans fr2) A2
   |ret y=>rw[e2] at dn;exact dn
   |exc q=>rw[e2] at dn;exact dn
   |bad=>rw[e2] at dn;exact dn
  |exc q=>rw[e] at dn;exact dn
  |bad=>rw[e] at dn;exact dn
theorem Vw {c:TT}{fc:List PV->Rr Bool} (hc:DT K EX Γ Γ c fc) (hb:DS K EX Γ ⟨Γ,Γ,Γ,k⟩ t g):DS K EX Γ ⟨Γ,Γ2,Γ3,k⟩ (ZdP c t) (fun ρ=>JI fc g ρ):=fun B H0 H σ ρ F D A d=>by
 dsimp only at d
 have ex:∃n,JN fc g n ρ=some (JI fc g ρ):=by
  by_cases hx:∃n r,JN fc g n ρ=some r
  ·obtain⟨n,r,e⟩:=hx
   exact⟨n,by rw[Qe e];exact e⟩
  ·unfold JI at d
   rw[dif_neg hx] at d
   exact d.elim
 obtain⟨n0,e0⟩:=ex
 generalize hr:JI fc g ρ=r at e0 d
 refine⟨fun m σ' H'=>∃ρ' F',Frm H F H' F'/\Ag K B H0 H' σ' Γ ρ' F' []/\JN fc g m ρ'=some r,⟨n0,ρ,F,Frm.refl,A,e0⟩, ?_⟩
 rintro m σ' H' ⟨ρ',F',fr,A',e⟩
 cases m with
 |zero=>cases e
 |succ m =>
  unfold JN at e
  refine hc B H0 H' σ' ρ' F' [] _ A' ?_
  cases e1:fc ρ' with
  |ok b =>
   rw[e1] at e
   refine fun H2 F2 s2 f2 A2=>?_
   have fr2:Frm H' F' H2 F2:=Frm.of s2 f2
   cases b with
   |true =>
    refine⟨fun σ3 H3=>∃ρ3 F3,Frm H F H3 F3/\Ag K B H0 H3 σ3 Γ ρ3 F3 []/\JN fc g m ρ3=some r,fun σ3 H3 h=>⟨m,Znq _,h⟩, ?_⟩
    refine hb B H0 H2 σ' ρ' F2 _ A2 ?_
    cases e2:g ρ' with
    |next ρ2=>rw[e2] at e;exact fun σ3 H3 F3 fr3 A3=>⟨ρ2,F3,fr.trans (fr2.trans fr3),A3,e⟩
    |cont ρ2=>rw[e2] at e;exact fun σ3 H3 F3 fr3 A3=>⟨ρ2,F3,fr.trans (fr2.trans fr3),A3,e⟩
    |brk ρ2 =>
     rw[e2] at e
     have e':RS.next ρ2=r:=Option.some.inj e
     rw[<- e'] at d
     exact fun σ3 H3 F3 fr3 A3=>d σ3 H3 F3 (fr.trans (fr2.trans fr3)) A3
    |ret y =>
     rw[e2] at e
     have e':RS.ret y=r:=Option.some.inj e
     rw[<- e'] at d
     exact d
    |exc q =>
     rw[e2] at e
     have e':RS.exc q=r:=Option.some.inj e
     rw[<- e'] at d
     exact d
    |bad =>
     rw[e2] at e
     have e':RS.bad=r:=Option.some.inj e
     rw[<- e'] at d
     exact d
   |false =>
    have e':RS.next ρ'=r:=Option.some.inj e
    rw[<- e'] at d
    exact d σ' H2 F2 (fr.trans fr2) A2
  |exc q =>
   rw[e1] at e
   have e':RS.exc q=r:=Option.some.inj e
   rw[<- e'] at d
   exact d
  |bad =>
   rw[e1] at e
   have e':RS.bad=r:=Option.some.inj e
   rw[<- e'] at d
   exact d
theorem Trees.get:∀{xs:List PV}{vs:List V}{G:List Addr}{j:Nat}{x:PV},Trees K H xs vs G->xs[j]?=some x->∃v G',vs[j]?=some v/\JB K H x v G'/\∀a∈G',a∈G
 |[],_,_,_,_,_,e=>by simp at e
 |y::xs,_,_,0,x,h,e=>by
  obtain⟨v,r,G1,G2,rfl,h1,h2,h3,rfl⟩:=h
  simp at e;subst e
  exact⟨v,G1,rfl,h1,fun a ha=>by simp[ha]⟩
 |y::xs,_,_,j+1,x,h,e=>by
  obtain⟨v,r,G1,G2,rfl,h1,h2,h3,rfl⟩:=h
  obtain⟨w,G',e1,e2,e3⟩:=Trees.get (j:=j) h2 (by simpa using e)
  exact⟨w,G',by simpa using e1,e2,fun a ha=>by simp[e3 a ha]⟩
theorem ZcT {xs:List PV}{vs:List V}{G:List Addr}{i:Int}{z:PV} (h:Trees K H xs vs G) (e:atI xs i=some z):∃u G',atI vs i=some u/\JB K H z u G'/\∀a∈G',a∈G:=by
 unfold atI at e ⊢
 rw[h.length]
 cases q:ixN xs.length i with
 |none=>rw[q] at e;cases e
 |some j=>rw[q] at e;exact h.get e
theorem ZaE {i:Nat}{h:Int->Int->Int} (hm:Γ2[i]?=some .O) (hmΓ:Γ[i]?=some .O) (hi:DE K EX Γ Γ2 .A ti f) (he:DE K EX Γ2 Γ2 .A te fe) :
  DS K EX Γ ⟨Γ2,Γ1,Γ3,k⟩ (Zf6 (Zbl i) ti te (ZfD K) (ipI h) Ze3) (fun ρ=>(f ρ).thenS fun j=>(pIx (gv i ρ) j).thenS fun z=>(asL (gv i ρ)).thenS fun _=>(fe ρ).thenS fun y=>(oI (fun _ _=>true) (fun a b=>.int (h a b)) z y).thenS fun w=>(pSet (gv i ρ) j w).thenS fun z=>.next (ρ.set i z)):=fun B H0 H σ ρ F D A d=>by
 obtain⟨v,h1,h2⟩:=A.getO hmΓ
 refine⟨v,h1,hi B H0 H σ ρ F [] _ A (d.thenS.imp (fun j _ d jv H1 s1 r1=>?_) fun e q=>q)⟩
 obtain⟨F1,f1,p1,A1⟩:=r1
 obtain⟨z,ez,d⟩:=Dn.pIx d.thenS
 obtain⟨xs,ex,d⟩:=Dn.asL d.thenS
 rw[ex] at ez
 obtain⟨v',h1',h2'⟩:=A1.getO hm
 rw[h1] at h1';cases h1'
 rw[show ρ.getD i .non=.lst xs from ex] at h2'
 obtain⟨a,vs,G,rfl,hH,ht,hn,hF⟩:=h2'
 obtain⟨j,rfl⟩:∃j',j=PV.int j':=by cases j<;>first|exact⟨_,rfl⟩|(simp only[pIx] at ez;cases ez;done)
 cases p1
 simp only[pIx] at ez
 cases e1:atI xs j with
 |none=>rw[e1] at ez;cases ez
 |some z' =>
  rw[e1] at ez;cases ez
  obtain⟨u,G2,e2,e3,e4⟩:=ZcT ht e1
  refine⟨a,vs,j,u,rfl,rfl,SqL.of hH,e2,he B H0 H1 σ ρ F1 [] _ A1 (d.thenS.imp (fun y _ d w H2 s2 r2=>?_) fun e q=>q)⟩
  obtain⟨F2,f2,p2,A2⟩:=r2
  obtain⟨zi,yi,rfl,rfl⟩:∃zi yi,z=PV.int zi/\y=PV.int yi:=by cases z<;>cases y<;>first|exact⟨_,_,rfl,rfl⟩|(exact d.elim;done)
  obtain⟨e5,_⟩:=e3
  subst e5
  cases p2
  refine⟨zi,yi,rfl,rfl, ?_⟩
  obtain⟨xs',jj,n,ex',e6,e7,d⟩:=Dn.pSet (show DnS _ _ _ _ _ _ _ _ ((pSet (gv i ρ) (.int j) (.int (h zi yi))).thenS _) from d).thenS
  cases e6
  rw[ex] at ex';cases ex'
  obtain⟨v',h1',h2'⟩:=A2.getO hm
  rw[h1] at h1';cases h1'
  rw[show ρ.getD i .non=.lst xs from ex] at h2'
  obtain⟨a',vs',G',e,hH',ht',hn',hF'⟩:=h2'
  cases e
  refine⟨a,vs',j,n,rfl,rfl,hH',by rw[ht'.length];exact e7, ?_⟩
  obtain⟨G'',g1,g2⟩:=Trees.setP (j:=n) (y:=.int (h zi yi)) (w:=.int (h zi yi)) ht' ⟨rfl,rfl⟩
  have haF:a∈F2 i:=by rw[hF'];simp
  have hsub:∀b∈a::G'',b∈F2 i:=fun b hb=>by
   rw[hF']
   rcases Zmf.mp hb with rfl|hb
   ·simp
   ·simp[g1 b hb]
  refine d σ _ (Uz F2 i (a::G'')) (Uq (s1.trans s2) (fun j b hb=>f1 j b (f2 j b hb)) haF fun b hb=>.inr ⟨i,f1 i b (f2 i b (hsub b hb))⟩) (Ag.chg (G:=[]) A2 hm haF (fun b hb=>.inl (hsub b hb)) (by simp) ?_)
  exact⟨_,h1,a,_,G'',rfl,ZO,g2.put hH' (fun z=>hn' (g1 a z)),fun z=>hn' (g1 a z),rfl⟩
end
noncomputable def RS.out:RS->Rr PV
 |.next _=>.ok .non
 |.ret x=>.ok x
 |.exc e=>.exc e
 |.brk _=>.bad
 |.cont _=>.bad
 |.bad=>.bad
@[simp] theorem RS.out_next {ρ:List PV}:(RS.next ρ).out=.ok .non:=rfl
@[simp] theorem RS.out_ret {x:PV}:(RS.ret x).out=.ok x:=rfl
@[simp] theorem RS.out_exc {e:PX}:(RS.exc e).out=.exc e:=rfl
def Ref (r r':Rr PV):Prop:=r=.bad\/r=r'
structure Pm where
 α:Type
 enc:α->List PV
 pre:α->Prop
 out:α->Rr PV
open Classical in
noncomputable def Pm.fn (m:Pm) (xs:List PV):Rr PV:=if h:∃a,m.enc a=xs/\m.pre a then m.out h.choose else .bad
theorem Pm.fn_eq (m:Pm) (a:m.α) (h:m.pre a) (inj:∀b,m.enc b=m.enc a->m.out b=m.out a):m.fn (m.enc a)=m.out a:=by
 unfold Pm.fn
 have hx:∃b,m.enc b=m.enc a/\m.pre b:=⟨a,rfl,h⟩
 rw[dif_pos hx]
 exact inj _ hx.choose_spec.1
theorem Pm.ref (m:Pm) {g:List PV->Rr PV} (h:∀a,m.pre a->g (m.enc a)=m.out a) (xs:List PV):Ref (m.fn xs) (g xs):=by
 unfold Pm.fn
 by_cases hx:∃a,m.enc a=xs/\m.pre a
 ·rw[dif_pos hx]
  have h2:=hx.choose_spec
  right
  have:=h _ h2.2
  rw[h2.1] at this
  exact this.symm
 ·rw[dif_neg hx];exact .inl rfl
section
variable {K:W.Frag}{B:Addr->Prop}{H:Hp}
theorem Ag.init {xs:List PV}{vs:List V}{n:Nat} (h:Reps K H B xs vs):Ag K (fun a=>B a\/H a=none) H H (vs.map some++List.replicate n none) (List.replicate xs.length .S++List.replicate n .U) (xs++List.replicate n .non) (fun _=>[]) []:=by
 refine⟨Z6.refl _,fun a h=>.inr h,by simp,by simp,by simp,by simp,by simp,by simp,by simp[h.length],by simp,fun i=>?_⟩
 by_cases hi:i<xs.length
 ·have e1:(List.replicate xs.length Md.S++List.replicate n Md.U).getD i .U=.S:=by
   rw[ZlS,ZlV (by simpa using hi),Znf hi];rfl
  have e2:(xs++List.replicate n PV.non).getD i .non=xs[i]:=by
   rw[ZlS,ZlV hi,ZlU hi];rfl
  rw[e1,e2]
  obtain⟨v,h1,h2⟩:=h.get (ZlU hi)
  refine⟨rfl,v, ?_,Rep.mono (fun a us s r=>⟨r,.inl s,by simp,by simp⟩) (fun a us r=>r) h2⟩
  rw[ZlV (by rw[Zmh,h.length];exact hi),Zmm,h1];rfl
 ·have e1:(List.replicate xs.length Md.S++List.replicate n Md.U).getD i .U=.U:=by
   rw[ZlS,ZlZ (by simpa using hi)]
   by_cases q:i-(List.replicate xs.length Md.S).length<n
   ·rw[Znf q];rfl
   ·rw[Zmc (by simpa using q)];rfl
  rw[e1]
  exact rfl
end
section
variable {P:Program}{w:World}{K:W.Frag}{mg:Str->Option Value}{base:Heap}
theorem Fun.okP {x qual:Str}{st:Stmt}{f:Addr}{fd:FuncData}{N ps:List Str}{k n l:Nat}{kd:Kd}{m:List PV->Rr PV} (F:Fun K x qual st f fd) (S:ZF N ps (Zi st)) (hn:ps.length=n) (hl:N.length-n=l)
  (hbody:∀(cdv:Value) (A:Around) (outer:List Env) (s:Shared) (H:Hp) (E:XK),U0 k (A.deeper (envOfC qual (Zi st) s.heap.objs.size f cdv)) ->
   ∃t g Y,Y.r=kd/\PSs (QK CX0 P w K mg base N qual (Zi st) f cdv A outer s H E).nox (Z7 st) t/\DS K X0 (List.replicate n .S++List.replicate l .U) Y t g/\∀xs,Ref (m xs) (g (xs++List.replicate l .non)).out) (hkN:kd≠.N:=by nofun) (hkM:kd≠.M:=by nofun) :
  Va P w K mg base CX0 (k+1) f fd ps (spF K n kd W0 m):=by
 refine F.ok S (fun vs H Q E h=>?_) (fun cdv A outer s H vs Q E hr h=>?_)
 ·obtain⟨B,xs,h1,h2,_⟩:=h
  rw[h1.length,h2,hn]
 ·obtain⟨B,xs,h1,h2,dn⟩:=h
  obtain⟨t,g,Y,hY,ht,hd,href⟩:=hbody cdv A outer s H E hr
  refine⟨t,ht, ?_⟩
  have A0:=Ag.init (n:=l) h1
  have est:VL N vs=vs.map some++List.replicate l none:=by
   unfold VL
   rw[h1.length,h2,hl]
  rw[est]
  rw[h2] at A0
  refine hd _ H H _ _ _ _ A0 ?_
  have hdn:Dn (g (xs++List.replicate l .non)).out (fun x=>∀v H',Z6 H H'->Zen K B H kd x v H'->Q v H') (fun e=>∀H',Z6 H H'->W0 e E H'):=by
   rcases href xs with e|e
   ·rw[e] at dn;exact dn.elim
   ·rw[<- e];exact dn
  have retK:∀{x v H'},Zen K (fun a=>B a\/H a=none) H kd x v H'->Zen K B H kd x v H':=fun {x v H'} h=>by
   cases kd with
   |P=>exact h
   |F=>exact h
   |T=>exact Rep.mono (fun a us s r=>⟨r,s.elim id .inr⟩) (fun a us r=>r) h
   |Z=>exact Rep.mono (fun a us s r=>⟨r,s.elim id .inr⟩) (fun a us r=>r) h
   |A=>exact Rep.mono (fun a us s r=>⟨r,s.elim id .inr⟩) (fun a us r=>r) h
   |N=>exact h
   |M=>exact h
  cases e:g (xs++List.replicate l .non) with
  |next ρ =>
   rw[e] at hdn
   refine fun σ' H' F' fr A'=>hdn .non H' A'.same ?_
   cases kd with
   |P=>exact⟨rfl,rfl⟩
   |F=>exact⟨[],⟨rfl,rfl⟩,by simp⟩
   |T=>exact rfl
   |Z=>exact rfl
   |A=>exact rfl
   |N=>exact absurd rfl hkN
   |M=>exact absurd rfl hkM
  |ret x=>rw[e] at hdn;exact fun v H' s r=>hdn v H' s (retK (hY▸r))
  |exc q=>rw[e] at hdn;exact fun H' s=>hdn H' s
  |brk ρ=>rw[e] at hdn;exact hdn.elim
  |cont ρ=>rw[e] at hdn;exact hdn.elim
  |bad=>rw[e] at hdn;exact hdn.elim
end
section
variable {K:W.Frag}{n:Nat}{m:List PV->Rr PV}{e:Expr}{ta:TA}{Γ Γ':List Md}{fa:List PV->Rr (List PV)}
theorem Zfw (hn:Len fa n) (ha:DAA K X0 Γ Γ' ta fa):DE K X0 Γ Γ' .F (Ql (spF K n .F W0 m) ta) (fun ρ=>(fa ρ).bind m):=ZaK (E:=E0) (W:=W0) (fun σ H Q h=>h) (fun e H' h=>h) hn ha
theorem ZcO (hn:Len fa n) (ha:DAA K X0 Γ Γ' ta fa):DE K X0 Γ Γ' .P (Ql (spF K n .P W0 m) ta) (fun ρ=>(fa ρ).bind m):=UY (E:=E0) (W:=W0) (fun σ H Q h=>h) (fun e H' h=>h) hn ha
end
theorem Zbd {K:W.Frag}{H:Hp}{a:Addr}{ns:List Int}{m:List PV->Rr PV} (hm:m [.lst (ns.map PV.int)]=.ok (.bl true)) (hS:SqL K H a (ns.map V.int)):spF K 1 .P W0 m [.ref a] H (fun v _=>v=.bl true) fun _ _ _=>False:=by
 refine⟨fun _=>True,[.lst (ns.map PV.int)],Reps.one ⟨a,_,rfl,hS.elim (fun h=>.inl ⟨h,trivial⟩) .inr,Qz ns⟩,rfl, ?_⟩
 rw[hm]
 exact fun v H' _ r=>r.2
section
variable {K:W.Frag}{EX:PX->Hp->Prop}{Γ Γ' Γ1 Γ2:List Md}{k:Kd}{te:TE}{f:List PV->Rr PV}
theorem UD {i:Nat}{wi:TI} (he:DE K EX Γ Γ' .F (ZcU wi te) f) (hi:i<Γ'.length):DS K EX Γ ⟨Γ'.set i .O,Γ1,Γ2,k⟩ (Zak i wi te) (fun ρ=>(f ρ).thenS fun x=>.next (ρ.set i x)):=ZU he hi
end
def RS.good (r:RS) (I:List PV->Prop):Prop:=match r with
 |.next ρ=>I ρ
 |.cont ρ=>I ρ
 |_=>False
theorem RS.good_ex {r:RS}{I:List PV->Prop} (h:r.good I):∃ρ',(r=.next ρ'\/r=.cont ρ')/\I ρ':=by
 cases r with
 |next ρ=>exact⟨ρ,.inl rfl,h⟩
 |cont ρ=>exact⟨ρ,.inr rfl,h⟩
 |ret x=>exact h.elim
 |brk ρ=>exact h.elim
 |exc e=>exact h.elim
 |bad=>exact h.elim
theorem ZdB {b:PV->List PV->RS}{xs:List PV}{ρ:List PV} (I:Nat->List PV->Prop) (h0:I 0 ρ) (h:∀i x ρ,xs[i]?=some x->I i ρ->(b x ρ).good (I (i+1))) :
  ∃ρ',U2 b xs ρ=.next ρ'/\I xs.length ρ':=by
 have key:∀n i ρ,xs.length=i+n->I i ρ->∃ρ',U2 b (xs.drop i) ρ=.next ρ'/\I xs.length ρ':=by
  intro n
  induction n with
  |zero =>
   intro i ρ hl hI
   rw[Zm3 (by omega)]
   exact⟨ρ,rfl,by rw[hl];exact hI⟩
  |succ n ih =>
   intro i ρ hl hI
   have hi:i<xs.length:=by omega
   rw[Zm0 hi]
   obtain⟨ρ',h1,h2⟩:=RS.good_ex (h i _ ρ (ZlU hi) hI)
   obtain⟨ρ2,h3,h4⟩:=ih (i+1) ρ' (by omega) h2
   refine⟨ρ2, ?_,h4⟩
   simp only[U2]
   rcases h1 with h1|h1<;>(rw[h1];exact h3)
 exact key xs.length 0 ρ (by omega) h0
theorem Jo {lo:Int}{n i:Nat}{x:PV} (h:(ZaT lo n)[i]?=some x):i<n/\x=.int (lo+i):=by
 unfold ZaT at h
 rw[Zmm] at h
 by_cases hi:i<n
 ·rw[Zmr hi] at h;cases h;exact⟨hi,rfl⟩
 ·rw[Zmc (by simpa using hi)] at h;cases h
@[simp] theorem Jb {lo:Int}{n:Nat}:(ZaT lo n).length=n:=by simp[ZaT]
@[simp] theorem ZeU {x:PV}{ρ:List PV}:gv 0 (x::ρ)=x:=rfl
@[simp] theorem ZeV {x:PV}{ρ:List PV}{i:Nat}:gv (i+1) (x::ρ)=gv i ρ:=rfl
theorem Zdj {ns:List Int}{k:Int} (h0:0<=k) (h1:k<ns.length):pIx (.lst (ns.map PV.int)) (.int k)=.ok (.int (ns.getD k.toNat 0)):=by
 have:atI (ns.map PV.int) k=some (.int (ns.getD k.toNat 0)):=by
  unfold atI
  rw[Zmh,ZaB h0 h1]
  show (ns.map PV.int)[k.toNat]?=_
  rw[Zmm,ZlU (by omega),ZlS,ZlU (by omega)]
  rfl
 simp only[pIx,this]
theorem ZbS {ns:List Int}{k y:Int} (h0:0<=k) (h1:k<ns.length):pSet (.lst (ns.map PV.int)) (.int k) (.int y)=.ok (.lst ((ns.set k.toNat y).map PV.int)):=by
 simp only[pSet,Zmh,ZaB h0 h1,List.map_set]
theorem Zca {ns:List Int}{y:Int} (h:ns.length<1000000):pApp (.lst (ns.map PV.int)) (.int y)=.ok (.lst ((ns++[y]).map PV.int)):=by
 simp only[pApp,Zmh,if_pos h,Zme,Zmd,Zmn]
theorem Vp {ns:List Int} (h:ns.length<=1000000):newF (ns.map PV.int)=.ok (.lst (ns.map PV.int)):=by
 unfold newF
 rw[PV.flats_ints,Zmh,decide_eq_true h];rfl
theorem Q8 (ns:List Int):PV.dats (ns.map PV.int)=ns.map PyData.int:=by
 induction ns with
 |nil=>rfl
 |cons n ns ih=>simp[PV.dats,PV.dat,ih]
theorem Zab (ns:List Int):PyData.canLayAll0 (ns.map PyData.int)=true:=by
 induction ns with
 |nil=>rfl
 |cons n ns ih=>simp[PyData.canLayAll0,PyData.canLay0,ih]
theorem Zcc (i:Int):okD (.int i)=true:=by simp[okD,PV.noX,PV.dat,PyData.canLay0,PyData.depth]
theorem Za5 (ns:List Int):okD (.lst (ns.map PV.int))=true:=by
 have hd:PyData.depthAll (ns.map PyData.int)=0:=by
  induction ns with
  |nil=>rfl
  |cons n ns ih=>simp[PyData.depthAll,PyData.depth,ih]
 simp[okD,PV.noX,PV.noXs_ints,PV.dat,Q8,PyData.canLay0,Zab,PyData.depth,hd]
theorem Us:∀(ns ms:List Int),PyData.eqvAll (ns.map PyData.int) (ms.map PyData.int)=decide (ns=ms)
 |[],[]=>by simp[PyData.eqvAll]
 |[],m::ms=>by simp[PyData.eqvAll]
 |n::ns,[]=>by simp[PyData.eqvAll]
 |n::ns,m::ms=>by
  simp only[Zmd,PyData.eqvAll,PyData.eqv,Us ns ms,List.cons.injEq,Bool.decide_and]
  rw[Bool.beq_eq_decide_eq]
theorem UQ {g:Bool->Bool} (ns ms:List Int):QJ g (.lst (ns.map PV.int)) (.lst (ms.map PV.int))=.ok (.bl (g (decide (ns=ms)))):=by
 unfold QJ
 rw[Za5,Za5]
 simp only[Bool.and_self,if_true,PV.dat,Q8,PyData.eqv,Us]
theorem ZeJ {g:Bool->Bool} (i j:Int):QJ g (.int i) (.int j)=.ok (.bl (g (decide (i=j)))):=by
 unfold QJ
 rw[Zcc,Zcc]
 simp only[Bool.and_self,if_true,PV.dat,PyData.eqv]
 rw[Bool.beq_eq_decide_eq]
theorem ZbV (ns:List Int):Zft [.lst (ns.map PV.int)]=.ok (.int ns.length):=by simp[Zft]
theorem ZbR (ns:List Int):Zhe [.lst (ns.map PV.int)]=.ok (.int ns.sum):=by simp[Zhe,ZaU]
theorem U8 {ns:List Int} (h:ns.length<=1000000):Zdi [.lst (ns.map PV.int)]=.ok (.lst (ns.map PV.int)):=by
 simp only[Zdi];exact Vp h
theorem Zds {ns ms:List Int} (h:ns.length+ms.length<=1000000):newF (ns.map PV.int++ms.map PV.int)=.ok (.lst ((ns++ms).map PV.int)):=by
 rw[<- Zme];exact Vp (by simpa using h)
theorem ZbT {ns:List Int}{k:Int} (h0:ns.length*k.toNat<=1000000) (h1:-(2^63)<=k) (h2:k<2^63):ZfJ (ns.map PV.int) (.int k)=.ok (.lst ((List.replicate k.toNat ns).flatten.map PV.int)):=by
 simp only[ZfJ,Zmh]
 rw[if_pos ⟨h0,h1,h2⟩]
 have e:(List.replicate k.toNat (ns.map PV.int)).flatten=(List.replicate k.toNat ns).flatten.map PV.int:=by
  rw[List.map_flatten,List.map_replicate]
 rw[e]
 refine Vp ?_
 rw[Zcp,Nat.mul_comm];exact h0
theorem Zfj {i j:Int} (a b:Nat) (h1:i.natAbs<=10^a) (h2:j.natAbs<=10^b) (ha:a<=4000:=by decide) (hb:b<=4000:=by decide):Zah i j:=by
 have t:∀c:Nat,c<=4000->(10:Nat)^c<2^60000:=fun c hc=>ZmP (Nat.pow_le_pow_right (by decide) hc) (by decide +kernel)
 exact⟨ZmP h1 (t a ha),ZmP h2 (t b hb)⟩
theorem Zfk {i j:Int} (b:Nat) (h1:0<j) (h2:j.natAbs<=10^b) (hb:b<=2000:=by decide):Zai i j:=by
 have t:∀c:Nat,c<=2000->(10:Nat)^c<2^9000:=fun c hc=>ZmP (Nat.pow_le_pow_right (by decide) hc) (by decide +kernel)
 exact⟨h1,ZmP h2 (t b hb)⟩
theorem ZeL {i j:Int} (h:Zai i j):Zhg (.int i) (.int j)=.ok (.int (i/j)):=Zcf (decide_eq_true h)
theorem ZeD {i j:Int} (h:Zah i j):Zhf (.int i) (.int j)=.ok (.int (i*j)):=Zcf (decide_eq_true h)
theorem ZeE {i j:Int} (h:0<j):ZhF (.int i) (.int j)=.ok (.int (i%j)):=Zcf (decide_eq_true h)
@[simp] theorem ZeM {i j:Int}:ZhG (.int i) (.int j)=.ok (.int (i+j)):=rfl
@[simp] theorem ZeB {i j:Int}:ZhE (.int i) (.int j)=.ok (.int (i-j)):=rfl
@[simp] theorem ZfL {i j:Int}:pLt (.int i) (.int j)=.ok (.bl (decide (i<j))):=rfl
@[simp] theorem ZfM {i j:Int}:pLe (.int i) (.int j)=.ok (.bl (decide (i<=j))):=rfl
@[simp] theorem ZfU {i j:Int}:pGt (.int i) (.int j)=.ok (.bl (decide (j<i))):=rfl
@[simp] theorem ZfV {i j:Int}:pGe (.int i) (.int j)=.ok (.bl (decide (j<=i))):=rfl
@[simp] theorem ZeW {i:Int}:grd (.int i)=.ok (.int i):=rfl
@[simp] theorem Zg9 {b:Bool}:asB (.bl b)=.ok b:=rfl
@[simp] theorem Zfm {xs:List PV}:asL (.lst xs)=.ok xs:=rfl
@[simp] theorem Zfn {i:Int}:asI (.int i)=.ok i:=rfl
@[simp] theorem ZfS {n:String}{x:Int}:Zfu n (.int x)=.ok (.bl (VB (Jx (.int x)) n)):=rfl
@[simp] theorem ZfT {n:String}{x:Bool}:Zfu n (.bl x)=.ok (.bl (VB (Jx (.bl x)) n)):=rfl
@[simp] theorem ZfR {n:String}{x:List PV}:Zfu n (.lst x)=.ok (.bl (VB (Jx (.lst x)) n)):=rfl
@[simp] theorem ZfQ {n:String}{x:List PV}:Zfu n (.tup x)=.ok (.bl (VB (Jx (.tup x)) n)):=rfl
@[simp] theorem ZeC {i:Int}:ZgI (.int i)=.ok (.int (-i)):=rfl
@[simp] theorem ZfP {x:PV}{xs:List PV}:pIx (.tup (x::xs)) (.int 0)=.ok x:=by simp[pIx,atI,ixN]
@[simp] theorem ZfO {x y:PV}{xs:List PV}:pIx (.tup (x::y::xs)) (.int 1)=.ok y:=by
 have:atI (x::y::xs) 1=some y:=by unfold atI;rw[ZaB (by omega) (by simp only[ZmO];omega)];rfl
 simp only[pIx,this]
theorem Zdf {j:Int} (h:-(2^62)<=j/\j<2^62):Zdg [.int j]=.ok (ZaT 0 j.toNat):=by simp only[Zdg,okR,decide_eq_true h,if_true]
theorem Zdd {i j:Int} (h:-(2^62)<=i/\i<2^62) (h':-(2^62)<=j/\j<2^62):Zde [.int i,.int j]=.ok (ZaT i (j-i).toNat):=by simp only[Zde,okR,decide_eq_true h,decide_eq_true h',Bool.and_self,if_true]
theorem QS {xs:List PV} (h:xs.length<=1000000):lenM xs=.ok ():=by simp only[lenM,if_pos h]
@[simp] theorem Zd5:VB (Jx (.int i)) "int"=true:=rfl
@[simp] theorem Zd6:VB (Jx (.int i)) "bool"=false:=rfl
@[simp] theorem Zd4:VB (Jx (.lst xs)) "list"=true:=rfl
@[simp] theorem Zd3:VB (Jx (.tup xs)) "tuple"=true:=rfl
theorem JR {I:List PV->Prop}{ρ:List PV} (h:I ρ):(RS.next ρ).good I:=h
theorem Zcx {ns ms:List Int} (e:ns.map PV.int=ms.map PV.int):ns=ms:=by
 have:=congrArg VG e
 simpa using this
theorem ZaX {i j:Int} (h0:0<j) (h1:j<1000000000000):Zhg (.int i) (.int j)=.ok (.int (i/j)):=ZeL (Zfk 12 h0 (by omega))
theorem Zgb {xs:List PV} (h:xs.length<=1000):mkT xs=.ok (.tup xs):=if_pos h
theorem Zgc {xs:List PV} (h:xs.length<=1000):mkL xs=.ok (.lst xs):=if_pos h
noncomputable def KD {α:Type}:Sem α->Prop
 |.pure _=>True
 |.raise _=>True
 |.unsupported _=>True
 |.finish _=>True
 |.rule _ k=>KD (k ())
 |.at _ k=>KD (k ())
 |.load _ _ k=>∀o,KD (k o)
 |.update _ _ f k=>(∀o:Obj,(f o).dict=o.dict/\(o.isFreed=false->(f o).isFreed=false))/\KD (k ())
 |.alloc _ k=>∀a,KD (k a)
 |.loadIfAlive _ k=>∀o,KD (k o)
 |.point _ k=>KD (k ())
 |.register _ _=>True
 |.fresh k=>∀t,KD (k t)
 |.ask k=>∀x,KD (k x)
 |.choose _ _ k=>∀n,KD (k n)
 |.os _ _ k=>∀r,KD (k r)
 |.call _ _ _ _ _=>False
 |.handled _ k=>∀x,KD (k x)
 |.newGen _ k=>∀g,KD (k g)
 |.genState _ k=>∀x,KD (k x)
 |.resume _ _ _ _=>False
 |.yield _ _ _ _=>True
 |.stack k=>∀x,KD (k x)
 |.fork _ _=>True
 |.thread k=>∀x,KD (k x)
 |.await _ _ _ _ _=>True
def DK (h h':Heap):Prop:=∀b o,h.get? b=some o->∃o',h'.get? b=some o'/\o'.dict=o.dict
theorem DK.refl (h:Heap):DK h h:=fun b o e=>⟨o,e,rfl⟩
theorem DK.trans {h1 h2 h3:Heap} (a:DK h1 h2) (b:DK h2 h3):DK h1 h3:=fun x o e=>by
 obtain⟨o1,e1,d1⟩:=a x o e
 obtain⟨o2,e2,d2⟩:=b x o1 e1
 exact⟨o2,e2,d2.trans d1⟩
theorem Zhk {M:Model}{Γ:PySem.Ctx}{α:Type}{Q:α->Pos->Shared->Prop}{E:Value->Pos->Shared->Prop}{h0:Heap}:∀(t:Sem α) (p:Pos) (s:Shared),KD t->DK h0 s.heap->Sem.wp M Γ t Q E p s ->
  Sem.wp M Γ t (fun a p' s'=>Q a p' s'/\DK h0 s'.heap) (fun e p' s'=>E e p' s'/\DK h0 s'.heap) p s:=by
 intro t
 induction t with
 |pure a=>intro p s _ d h;exact⟨h,d⟩
 |raise e=>intro p s _ d h;exact⟨h,d⟩
 |unsupported w=>intro p s _ _ h;exact h
 |finish e=>intro p s _ _ h;exact h
 |rule t k ih=>intro p s k d h;exact ih () p s k d h
 |«at» q k ih=>intro p s k d h;exact ih () q s k d h
 |load a q k ih=>intro p s k d h;obtain⟨o,e,h⟩:=h;exact⟨o,e,ih o p s (k o) d h⟩
 |update a q f k ih =>
  intro p s k d h
  refine⟨h.1,ih () p _ k.2 (d.trans fun b o e=>?_) h.2⟩
  by_cases hb:a=b
  ·subst hb
   exact⟨_,Heap.get?_update_self f e ((k.1 o).2 (Heap.get?_some_iff.mp e).2),(k.1 o).1⟩
  ·exact⟨o,(Heap.get?_update_other _ f hb).trans e,rfl⟩
 |alloc o k ih=>intro p s k d h;exact ih _ p _ (k _) (d.trans fun b o' e=>⟨o',Heap.get?_push_of_some _ e,rfl⟩) h
 |loadIfAlive a k ih=>intro p s k d h;exact ih _ p s (k _) d h
 |point l k ih=>intro p s k d h;exact ih () p s k d h
 |register a k ih=>intro p s _ _ h;exact h
 |fresh k ih=>intro p s k d h;exact ih _ p _ (k _) d h
 |ask k ih=>intro p s k d h;exact ih _ p _ (k _) d h
 |choose a n k ih=>intro p s k d h;exact⟨h.1,ih _ p _ (k _) d h.2⟩
 |os q l k ih=>intro p s k d h;exact ih _ p _ (k _) d h
 |call c h g l k ih=>intro p s k d h;exact k.elim
 |handled o k ih=>intro p s k d h;exact ih _ p _ (k _) d h
 |newGen c k ih=>intro p s k d h;exact ih _ p _ (k _) d h
 |genState g k ih=>intro p s k d h;obtain⟨st,e,h⟩:=h;exact⟨st,e,ih _ p s (k _) d h⟩
 |resume g r l k ih=>intro p s k d h;exact k.elim
 |yield v g l k ih=>intro p s _ _ h;exact h
 |stack k ih=>intro p s k d h;exact ih _ p _ (k _) d h
 |fork c k ih=>intro p s _ _ h;exact h
 |thread k ih=>intro p s k d h;exact ih _ p _ (k _) d h
 |await a t d l k ih=>intro p s _ _ h;exact h
theorem Zeb {M:Model}{A:Around}{α:Type}{t:Sem α}{Q:α->Shared->Prop}{E:Value->Shared->Prop}{s:Shared} (k:KD t) (h:wpAny M A t Q E s):wpAny M A t (fun a s'=>Q a s'/\DK s.heap s'.heap) (fun e s'=>E e s'/\DK s.heap s'.heap) s:=
 fun Γ p hΓ=>Zhk t p s k (DK.refl _) (h Γ p hΓ)
theorem ZB {α β:Type}:∀(m:Sem α) {f:α->Sem β},KD m->(∀a,KD (f a))->KD (m >>= f):=by
 intro m f
 show KD m->_->KD (m.bind f)
 induction m with
 |pure a=>intro _ h;exact h a
 |raise e=>intro _ _;trivial
 |unsupported w=>intro _ _;trivial
 |finish e=>intro _ _;trivial
 |rule t k ih=>intro k h;exact ih () k h
 |«at» q k ih=>intro k h;exact ih () k h
 |load a q k ih=>intro k h o;exact ih o (k o) h
 |update a q g k ih=>intro k h;exact⟨k.1,ih () k.2 h⟩
 |alloc o k ih=>intro k h a;exact ih a (k a) h
 |loadIfAlive a k ih=>intro k h o;exact ih o (k o) h
 |point l k ih=>intro k h;exact ih () k h
 |register a k ih=>intro _ _;trivial
 |fresh k ih=>intro k h a;exact ih a (k a) h
 |ask k ih=>intro k h a;exact ih a (k a) h
 |choose a n k ih=>intro k h a;exact ih a (k a) h
 |os q l k ih=>intro k h a;exact ih a (k a) h
 |call c h g l k ih=>intro k h;exact k.elim
 |handled o k ih=>intro k h a;exact ih a (k a) h
 |newGen c k ih=>intro k h a;exact ih a (k a) h
 |genState g k ih=>intro k h a;exact ih a (k a) h
 |resume g r l k ih=>intro k h;exact k.elim
 |yield v g l k ih=>intro _ _;trivial
 |stack k ih=>intro k h a;exact ih a (k a) h
 |fork c k ih=>intro _ _;trivial
 |thread k ih=>intro k h a;exact ih a (k a) h
 |await a t d l k ih=>intro _ _;trivial
theorem ZT {α:Type}{a:α}:KD (pure a:Sem α):=trivial
theorem U1 {α:Type}{w:String}:KD (unsupported w:Sem α):=trivial
theorem QT {a:Addr}:KD (load a):=fun _=>trivial
theorem Zgo (g:Array Value->Array Value) (o:Obj):(Obj.mapFields g o).dict=o.dict/\(o.isFreed=false->(Obj.mapFields g o).isFreed=false):=by
 obtain⟨c,d,dt,sl⟩:=o
 cases dt<;>exact⟨rfl,fun h=>h⟩
theorem QV (v:Value):KD (fieldsOf v):=by
 unfold fieldsOf
 cases v<;>try exact U1
 refine ZB _ QT fun o=>?_
 cases o.data<;>first|exact ZT|exact U1
theorem VW (v:Value) (i:Nat):KD (field v i):=by
 unfold field
 refine ZB _ (QV v) fun vs=>?_
 cases vs[i]?<;>first|exact ZT|exact U1
theorem Ve (v:Value) (i:Nat) (x:Value):KD (setField v i x):=by
 unfold setField
 cases v<;>try exact U1
 unfold updateField
 refine ZB _ QT fun o=>?_
 cases o.data<;>try exact U1
 dsimp only
 split
 ·exact⟨fun o=>Zgo _ o,trivial⟩
 ·exact U1
theorem Qw (e:Value) (f:Option Addr):KD (setFlight e f):=by
 unfold setFlight
 refine ZB _ (VW e 1) fun tb=>?_
 split
 ·exact Ve _ _ _
 ·exact ZT
theorem Qx (ty:String) (vs:List Value):KD (newFields ty vs):=by
 unfold newFields newObj newObjAsIs
 dsimp only
 have al:∀(o:Obj),KD (alloc o):=fun _ _=>trivial
 split
 ·exact ZB _ U1 fun _=>ZB _ (al _) fun _=>ZT
 ·exact ZB _ (al _) fun _=>ZT
theorem Zcr (env:Env) (outer:List Env):KD (behindIsImport env outer):=by
 unfold behindIsImport
 split
 ·exact ZT
 ·split
  ·exact ZT
  ·exact ZB _ (VW _ _) fun _=>ZT
theorem QU (env:Env) (i:Bool) (outer:List Env):KD (keptBack env i outer):=by
 cases outer with
 |nil =>
  have u:KD underTheClaimsCaller:=by
   unfold underTheClaimsCaller
   exact ZB _ (show KD stack from fun _=>trivial) fun _=>ZT
  rw[keptBack]
  split
  ·exact ZT
  ·exact ZB _ u fun _=>ZT
 |cons c r=>unfold keptBack;exact ZT
theorem Zd0 {o:Obj}{sl:Array (Option Value)}:({ o with slots:=sl }:Obj).dict=o.dict/\(o.isFreed=false->({ o with slots:=sl }:Obj).isFreed=false):=by
 obtain⟨c,d,dt,s⟩:=o
 cases dt<;>exact⟨rfl,fun h=>h⟩
theorem ZaA:∀(l:List Env),KD (readyFrames l)
 |[]=>trivial
 |env::outer=>by
  unfold readyFrames
  cases env.frame with
  |none=>exact U1
  |some f =>
   dsimp only
   refine ZB _ QT fun o=>?_
   split
   ·exact ZT
   ·refine ZB _ (Zcr _ _) fun _=>ZB _ (QU _ _ _) fun _=>ZB _ ⟨fun o=>Zd0,trivial⟩ fun _=>ZaA outer
theorem Zbe (env:Env):KD (PySem.frameOf env):=by
 unfold PySem.frameOf
 refine ZB _ ?_ fun l=>ZB _ ?_ fun r=>?_
 ·unfold frameEnvs
  exact ZB _ (fun _=>trivial) fun _=>ZT
 ·cases (List.dropWhile (fun x=>x.frame != env.frame) l) with
  |nil=>exact ZT
  |cons a r=>exact ZB _ (ZaA _) fun _=>ZT
 ·cases r<;>first|exact ZT|exact U1
theorem Zd1 (f:Addr) (b:Bool):KD (entryPlaceOf f b):=by
 unfold entryPlaceOf
 refine ZB _ (show KD stack from fun _=>trivial) fun acts=>?_
 split<;>exact ZT
theorem ZeR (e:Value) (env:Env):KD (noteFrame e env):=by
 unfold noteFrame
 cases env.frame with
 |none=>exact U1
 |some f =>
  dsimp only
  refine ZB _ (VW _ _) fun head=>?_
  have tail:∀(hd:Bool),KD (do setField e 1 (<- EntryCells.newEntry head (<- PySem.frameOf env) .none (rawInt f) .none (<- entryPlaceOf f hd))):=fun hd =>
   ZB _ (Zbe env) fun _=>ZB _ (Zd1 _ _) fun _=>ZB _ (Qx _ _) fun _=>Ve _ _ _
  split
  ·refine ZB _ (VW _ _) fun x=>?_
   split
   ·exact ZT
   ·exact ZB _ (Ve _ _ _) fun _=>tail _
  ·exact tail _
theorem UB (env:Env) (e:Value):KD (leaving env e):=ZB _ (ZeR e env) fun _=>Qw e none
theorem Vk.there {P:Program}{w:World}{H:Hp}{h:Heap}{a:Addr}{o:HO} (x:Vk P w H h a o):∃u,h.get? a=some u:=by
 cases o with
 |lst xs=>obtain⟨_,_,_,_,e⟩:=x;exact⟨_,e⟩
 |tup xs=>obtain⟨_,_,_,_,e,_⟩:=x;exact⟨_,e⟩
 |dK kvs=>obtain⟨_,_,_,_,o,_,_,e,_⟩:=x;exact⟨_,e⟩
 |dT kvs=>obtain⟨_,_,_,_,o,_,_,e,_⟩:=x;exact⟨_,e⟩
 |set S n=>obtain⟨o,_,_,_,e,_⟩:=x;exact⟨_,e⟩
 |ins C dx fs=>obtain⟨_,_,_,e,_⟩:=x;exact⟨_,e⟩
 |own y=>obtain⟨_,e⟩:=x;exact⟨_,e⟩
 |xd fs=>obtain⟨_,⟨_,_,_,e,_⟩,_⟩:=x;exact⟨_,e⟩
 |rng lo hi=>obtain⟨_,_,_,e⟩:=x;exact⟨_,e⟩
 |frz ob u=>exact⟨_,x.1⟩
 |tbl ps=>exact⟨_,x⟩
 |met f y=>exact⟨_,x⟩
 |ext φ=>exact x.2.1
def ZgO (H:Hp) (ea k:Addr) (o:Obj):Prop:=(o.dict=none/\k=ea)\/(o.dict=some k/\∃fs,H k=some (.xd fs))
structure Fly (P:Program) (w:World) (outer:List Env) (H:Hp) (s:Shared) (ea k:Addr) (cls:Value) (H':Hp) (s':Shared):Prop where
 os:s'.os=s.os
 bare:AllBare s'.gens
 un:Un (frs outer) [] H H' s.heap s'.heap
 hok:HOk P w H' s'.heap
 new:H' ea=none
 dict:∃o,s'.heap.get? ea=some o/\ZgO H' ea k o
 fly:∃(Bh:Heap) (t:Addr),Heap.FlyingW Bh outer ea cls (.ref t) s'.heap/\(∀b u,H' b=some u->∀o,s'.heap.get? b=some o->Bh.get? b=some o)/\∀b o,s.heap.get? b=some o->b ∉ frs outer->∃o',Bh.get? b=some o'
noncomputable def CX1 (P:Program) (w:World):CXT:=fun outer H s E e s'=>∃ea k cls H',e=.ref ea/\Fly P w outer H s ea k cls H' s'/\E cls (some k) H'
section
variable {P:Program}{w:World}{K:W.Frag}{mg:Str->Option Value}{base:Heap}{N:List Str}{qual:Str}{scope:Scope}{f:Addr}{cd:Value}{A:Around}{outer:List Env}{s:Shared}{H:Hp}{E:XK}{pins:List (Addr×Obj)}{σ:St}{H1 H':Hp}{s1 s':Shared}{g h'' Bh:Heap}{ea k t:Addr}{cls:Value}
theorem Zc0 (I:Inv (QK (CX1 P w) P w K mg base N qual scope f cd A outer s H E) pins σ H1 s1) (os:s'.os=s1.os) (bare:AllBare s'.gens) (un:Un (s.heap.objs.size::frs outer) [] H1 H' s1.heap g) (hok:HOk P w H' g) (up:g.UpToSlots h'')
  (fl:Heap.FlyingW Bh outer ea cls (.ref t) h'') (st:Bh.StaysIn g) (c1:∀b u,H' b=some u->∀o,g.get? b=some o->Bh.get? b=some o) (c2:∀b o,s.heap.get? b=some o->b ∉ s.heap.objs.size::frs outer->∃o',Bh.get? b=some o')
  (new:H' ea=none) (dn:∃o,g.get? ea=some o/\ZgO H' ea k o) (dk:DK g h''):Fly P w outer H s ea k cls H' { s' with heap:=h'' }:=by
 have neL:∀b o,s.heap.get? b=some o->b≠s.heap.objs.size:=fun b o e=>Zmk (Heap.lt_size e)
 have nin:∀b o,s.heap.get? b=some o->b ∉ frs outer->b ∉ s.heap.objs.size::frs outer:=fun b o e n z=>(Zmf.mp z).elim (neL b o e) n
 have b0:Un (frs outer) [] H H1 s.heap s1.heap:=I.base
 have fr0:∀b∈frs outer,H b=none:=I.ok.frf
 have slot:∀b o,s.heap.get? b=some o->H b=none->b∈frs outer->∃sl,h''.get? b=some { o with slots:=sl }:=fun b o q n hb=>by
  obtain⟨s2,e1⟩:=b0.slot b o q n hb (by simp)
  obtain⟨s3,e2⟩:=un.slot b _ e1 (b0.free b o q n (by simp)) (Zm2 _ hb) (by simp)
  obtain⟨_,o',ho',hnf⟩:=Heap.FunFrames.mem (show s.heap.FunFrames base outer from I.ok.funs) hb
  rw[q] at ho';cases ho'
  obtain⟨s4,e3⟩:=up b _ e2 hnf
  exact⟨s4,e3⟩
 have keepB:∀b o,s.heap.get? b=some o->H b=none->b ∉ frs outer->Bh.get? b=some o:=fun b o q n hb=>by
  have e1:=b0.keep b o q n hb (by simp)
  have e2:=un.keep b o e1 (b0.free b o q n (by simp)) (nin b o q hb) (by simp)
  obtain⟨o',e3⟩:=c2 b o q (nin b o q hb)
  have e4:=st b o' e3
  rw[e2] at e4;cases e4
  exact e3
 have thereB:∀b o,s.heap.get? b=some o->b ∉ frs outer->∃o',Bh.get? b=some o':=fun b o q hb=>by
  exact c2 b o q (nin b o q hb)
 refine⟨os.trans I.os,bare,⟨fun b o q n hb _=>fl.1 b o (keepB b o q n hb),fun b o q n hb _=>slot b o q n hb,fun b o q n _=>?_,fun b o q _=>?_,fun b xs q=>un.tups b xs (b0.tups b xs q),fun b o xs q=>un.frzs b o xs (b0.frzs b o xs q),fun b ps q=>?_⟩,fun b u e=>?_,new,(let ⟨o,e,d⟩:=dn;let ⟨o',e',d'⟩:=dk ea o e;⟨o',e',by unfold ZgO at d ⊢;rw[d'];exact d⟩),Bh,t,fl,fun b u e o q=>?_,thereB⟩
 ·obtain⟨o1,e1⟩:=b0.there b o q (by simp)
  exact un.free b o1 e1 (b0.free b o q n (by simp)) (by simp)
 ·by_cases hb:b∈frs outer
  ·obtain⟨sl,e⟩:=slot b o q (fr0 b hb) hb
   exact⟨_,e⟩
  ·obtain⟨o',e⟩:=thereB b o q hb
   exact⟨o',fl.1 b o' e⟩
 ·obtain⟨m1,e1⟩:=b0.tbls b ps q
  obtain⟨m2,e2⟩:=un.tbls b _ e1
  exact⟨m1++m2,by rw[e2,Array.append_assoc]⟩
 ·refine(hok b u e).stay (fun c v hc q=>?_) (fun _ q=>q) fun _ _ q=>q
  rcases hc with rfl|hc
  ·exact fl.1 c v (c1 c u e v q)
  ·exact fl.1 c v (c1 c _ hc v q)
 ·obtain⟨o1,e1⟩:=(hok b u e).there
  have e2:=c1 b u e o1 e1
  have e3:=fl.1 b o1 e2
  rw[e3] at q;cases q
  exact e2
def Zfs (X:Cx) (E:St->XK):Prop:=∀(pins:List (Addr×Obj)) (σ:St) (H:Hp) (s:Shared) (e:Value) (s':Shared),Inv X pins σ H s->CX1 X.prog X.w X.stack H s (E σ) e s'->X.xe e s'
def ZgD (X:Cx) (E:St->XK):Prop:=∀(pins:List (Addr×Obj)) (σ:St) (H:Hp) (s:Shared) (h':Heap) (ea:Addr) (cls:Value) (args:List Value),Inv X pins σ H s->Heap.MadeExcOf s.heap h' ea cls args->E σ cls (some ea) H->X.xe (.ref ea) { s with heap:=h' }
theorem ZbQ:Zfs (QK (CX1 P w) P w K mg base N qual scope f cd A outer s H E) (fun _=>E):=fun pins σ H1 s1 e s' I hq=>by
 obtain⟨ea,k,cls,H',rfl,F,hE⟩:=hq
 obtain⟨Bh,t,fl,c1,c2⟩:=F.fly
 refine wpAny_mono (Zeb (UB _ _) (wpAny_leaves_onW (Q:=fun _ s''=>∃h'',s''={ s' with heap:=h'' }/\Heap.FlyingW Bh outer ea cls (.ref t) h''/\s'.heap.UpToSlots h'') I.ok.frames rfl fl fun h'' fl'' up=>⟨h'',rfl,fl'',up⟩)) (fun _ s'' q=>?_) fun _ _ q=>q.1
 obtain⟨⟨h'',rfl,fl'',up⟩,dk⟩:=q
 exact⟨ea,k,cls,H',rfl,Zc0 I F.os F.bare F.un F.hok up fl'' fl.1 c1 (fun b o e n=>let ⟨o1,e1⟩:=(show Un (frs outer) [] H H1 s.heap s1.heap from I.base).there b o e (by simp);c2 b o1 e1 n) F.new F.dict dk,hE⟩
theorem Zcm:ZgD (QK (CX1 P w) P w K mg base N qual scope f cd A outer s H E) (fun _=>E):=fun pins σ H1 s1 h' ea cls args I hx hE=>by
 have hin:∀env∈(QK (CX1 P w) P w K mg base N qual scope f cd A outer s H E).stack,∀b,env.frame=some b->b∈frs (QK (CX1 P w) P w K mg base N qual scope f cd A outer s H E).stack:=fun env he b hb=>Znk.mpr ⟨env,he,hb⟩
 have trk:∀b u,H1 b=some u->b ∉ frs (QK (CX1 P w) P w K mg base N qual scope f cd A outer s H E).stack:=fun b u e z=>by rw[I.stkFree b z] at e;cases e
 have new:H1 ea=none:=by
  cases q:H1 ea with
  |none=>rfl
  |some u=>obtain⟨o,e⟩:=(I.hok ea u q).there;rw[hx.new] at e;cases e
 refine wpAny_mono (Zeb (UB _ _) (wpAny_leaves_madeW (Q:=fun _ s''=>∃h'' t,s''={ s1 with heap:=h'' }/\Heap.FlyingW (PySem.W.hideAll s1.heap (frs (QK (CX1 P w) P w K mg base N qual scope f cd A outer s H E).stack)) outer ea cls (.ref t) h''/\h'.UpToSlots h'')
  (base:=PySem.W.hideAll s1.heap (frs (QK (CX1 P w) P w K mg base N qual scope f cd A outer s H E).stack)) (h:=s1.heap) I.ok.frames rfl (fun b o q=>PySem.W.of_hideAll _ q) (PySem.W.funFrames_hide I.stack hin) hx fun h'' t fl _ _ up=>⟨h'',t,rfl,fl,up⟩)) (fun _ s'' q=>?_) fun _ _ q=>q.1
 obtain⟨⟨h'',t,rfl,fl,up⟩,dk⟩:=q
 have dn:∃o,h'.get? ea=some o/\ZgO H1 ea ea o:=by obtain⟨t,e,_⟩:=hx.there;exact⟨_,e,.inl ⟨rfl,rfl⟩⟩
 refine⟨ea,ea,cls,H1,rfl,Zc0 (g:=h') (t:=t) (s':={ s1 with heap:=h' }) I rfl I.bare (Un.kept hx.keeps) (I.hok.kept hx.keeps) up fl (fun b o q=>hx.keeps b o (PySem.W.of_hideAll _ q)) (fun b u e o q=>?_) (fun b o q n=>let ⟨o1,e1⟩:=(show Un (frs outer) [] H H1 s.heap s1.heap from I.base).there b o q (by simp);⟨o1,PySem.W.hideAll_get _ e1 n⟩) new dn dk,hE⟩
 obtain⟨o1,e1⟩:=(I.hok b u e).there
 have e2:=hx.keeps b o1 e1
 rw[q] at e2;cases e2
 exact PySem.W.hideAll_get _ e1 (trk b u e)
end
noncomputable def Zhs:List Value:=[.type "ValueError",.type "Exception",.type "BaseException",.type "object"]
noncomputable def ZdQ (C:Addr) (E:St->XK) (ta:TA):TS:=fun D σ H=>ta σ H fun vs H1=>vs.length<=1000/\∀ea,H1 ea=none->E σ (.ref C) (some ea) H1
theorem ZeY {K:W.Frag}{h₀:Heap}{C:Addr}{bmB:List Value}{newId:String} (X:K.In h₀) (q:PySem.W.excIn K C bmB newId=true) :
  ∃tl N nm qn bs hdct sn sub ab col dd k0 k1 k2 k3 k5 mN,h₀.get? C=some (excClassObj nm qn C N bs tl hdct sn sub ab col dd k0 k1 k2 k3 k5 newId)/\h₀.Ns N mN/\mN "__init__"=none/\OwnTail h₀ bmB tl:=by
 unfold PySem.W.excIn at q
 split at q
 ·rename_i dd cd sl ho
  split at q
  ·rename_i C' bm k0 k1 k2 k3 n k5 hm hs
   simp only[Bool.and_eq_true,beq_iff_eq,Bool.not_eq_true'] at q
   obtain⟨⟨⟨⟨⟨rfl,rfl⟩,hdel⟩,ht⟩,hok⟩,hni⟩:=q
   obtain⟨nm,bs,mro,ns,qn,hd,sn,sub,ab,col,del⟩:=cd
   dsimp only at hm hdel hok hni
   subst hm hdel
   have hsl:sl=#[k0,k1,k2,k3,some (.builtin n),k5]:=by
    obtain⟨l⟩:=sl
    simp only at hs
    rw[hs]
   subst hsl
   exact⟨bm,ns,nm,qn,bs,hd,sn,sub,ab,col,dd,k0,k1,k2,k3,k5,_,X _ _ ho,.of_isNs (PySem.W.isNs_of_in X hok),PySem.W.nsMap_none_of_in X hok hni,PySem.W.tail_of_in X ht⟩
  ·cases q
 ·cases q
section
variable {X:Cx}{E:St->XK}{x:Str}{C:Addr}{np cpos pos:Pos}{e:Expr}{es:List Expr}{ta:TA}
theorem Zat (hM:ZgD X E) (hq:PySem.W.excIn X.K C Zhs "ValueError.__new__"=true) (hg:Gl X x) (hm:X.mg x=some (.ref C)) (hc:X.calm=true) (ha:PA X (e::es) ta) (hdb:(x==("__debug__":Str))=false:=by decide)
  (he:starEach (e::es) X.env=(false,eval e X.env)::starEach es X.env:=by rfl) (hpl:(backTo cpos (starEach es X.env)).any (·.1)=false:=by rfl) :
  PS X (.Raise (some (.Call (.Name x np) (e::es) [] cpos)) none pos) (ZdQ C E ta):=by
 intro pins s σ H D I h
 obtain⟨tl,N,nm,q,bs,hdct,sn,sub,ab,col,dd,k0,k1,k2,k3,k5,mN,hC,hN,hni,T⟩:=ZeY I.ok.mod.kin hq
 refine wpAny_Raise_call_subT (C:=C) (nm:=nm) (q:=q) (N:=N) (bs:=bs) (bm:=tl) (hdct:=hdct) (sn:=sn) (sub:=sub) (ab:=ab) (col:=col) (dd:=dd) (k0:=k0) (k1:=k1) (k2:=k2) (k3:=k3) (k5:=k5)
  PySem.F.excBase_ValueError (mN:=mN) (T.hasType PySem.F.excBase_ValueError.hasBase) (I.ok.hd hc) (by rw[he];show (false || (backTo cpos (starEach es X.env)).any (·.1))=false;rw[hpl];rfl) hni (UU I hg hm ⟨rfl, ?_⟩ hdb)
 have h2:=ha cpos pins s σ H _ I h
 rw[he] at h2 ⊢
 refine Calls.evalArgs_plain (wpAny_mono h2 (fun us s₂ z=>?_) fun _ _ y=>y)
 obtain⟨vs,H1,I1,r,hl,hE⟩:=z
 have hnew:∀{h':Heap}{ea:Addr}{args:List Value},Heap.MadeExcOf s₂.heap h' ea (.ref C) args->H1 ea=none:=fun {h' ea args} hx=>by
  cases q:H1 ea with
  |none=>rfl
  |some u=>obtain⟨o,e⟩:=(I1.hok ea u q).there;rw[hx.new] at e;cases e
 exact⟨rfl,Zml (by rw[<- r.length];exact hl) (by decide),I1.bk _ _ hC,hN.keeps I1.bk,T.keeps I1.bk,fun h' ea hx=>hM pins σ H1 s₂ h' ea _ _ I1 hx (hE ea (hnew hx))⟩
end
end L2
namespace PySem.W
open PySem PySem.Spec PySem.Calls PyProof.Rows
section
variable {K:Frag}{D:Addr}
noncomputable def exOk (K:Frag) (D:Addr):Bool:=(findIn K (.ref D) "__getattribute__" == some (some (.builtin "BaseException.__getattribute__")))&&(findIn K (.ref D) "__getattr__" == some none)&&(mroIn K D (.type "BaseException")==some true)&&(mroIn K D (.type "object")==some true) &&
 (findIn K (.ref D) "__class__" == some (some (.builtin "object.__class__")))&&(specialIn K (.builtin "object.__class__") "__get__" == some (some (.builtin "getset_descriptor.__get__")))&&(takesIn K (.builtin "object.__class__")==some true)&&(clsIn K D).isSome
end
end PySem.W
namespace L2
open PySem PySem.Spec PyProof.Rows
def OkX (P:Program) (w:World) (K:W.Frag) (mg:Str->Option Value) (base:Heap) (k:Nat) (x:Str) (ps:List Str) (sp:Sp):Prop:=
 ∃f fd,Va P w K mg base (CX1 P w) k f fd ps sp/\mg x=some (.ref f)/\PySem.W.keepIn K (.ref f)=true/\Zaj K fd ps []
theorem Zdq {P:Program}{w:World}{K:W.Frag}{mg:Str->Option Value}{base:Heap}{k:Nat}{x:Str}{st:Stmt}{ps:List Str}{sp:Sp} (d:Dfn K mg x st) (b:Z8 x st ps)
  (h:∀{f fd},Fun K x x st f fd->Va P w K mg base (CX1 P w) k f fd ps sp):OkX P w K mg base k x ps sp:=by
 obtain⟨f,fd,F,hm⟩:=d
 exact⟨f,fd,h F,hm,F.kp,F.binds b⟩
section
variable {X:Cx}{k:Nat}{x:Str}{ps:List Str}{sp:Sp}{p pos:Pos}{e:Expr}{es:List Expr}{t:TA}{E:St->XK}
noncomputable def Zam (sp:Sp) (E:St->XK) (t:TA):TE:=fun σ H Q=>t σ H fun vs H1=>sp vs H1 Q (E σ)
theorem JV (G:OkX X.prog X.w X.K X.mg X.base k x ps sp) (hr:U0 k X.A) (hg:Gl X x) (hx:Zfs X E) (ha:PA X (e::es) t) (hdb:(x==("__debug__":Str))=false:=by decide)
  (he:starEach (e::es) X.env=(false,eval e X.env)::starEach es X.env:=by rfl) (hpl:(backTo pos (starEach es X.env)).any (·.1)=false:=by rfl):PE X (.Call (.Name x p) (e::es) [] pos) (Zam sp E t):=by
 obtain⟨f,fd,F,hm,hk,hb⟩:=G
 intro pins s σ H Q I h
 refine wpAny_Call_Name_kw (UU I hg hm ?_ hdb)
 refine PySem.W.callWith_K (h₀:=X.base) I.ok.mod.kin hk (thn (ha pos pins s σ H _ I h) fun us s1 ⟨vs,H1,I1,r,q⟩=>⟨I1.kIn, ?_⟩) he hpl
 have hl:(us++[]).length=ps.length:=by rw[ZmF,<- r.length];exact F.len _ _ _ _ q
 have hb':=hb s1 us I1.kIn hl
 rw[ZmF] at hb'
 refine wpAny_call (codeAny_mono (F.run X.A X.stack s1 H1 ⟨us,[]⟩ us vs Q (E σ) hr I1.env0 hb' r q) fun r s' hq=>?_)
 cases r with
 |error e=>exact hx pins σ H1 s1 e s' I1 hq
 |ok fl =>
  cases fl with
  |ret u=>exact I1.after hq
  |next=>exact False.elim hq
  |brk=>exact False.elim hq
  |cont=>exact False.elim hq
end
noncomputable def Zil:PV->Hp->Addr->Prop
 |.non,H,k=>H k=none
 |.int i,H,k=>∃fs,H k=some (.xd fs)/\fs=[(("at":Str),V.int i)]
 |_,_,_=>False
def W1 (K:W.Frag):PX->XK->Hp->Prop:=fun e E H'=>∀C k,Zfq K e.1 C->Zil e.2 H' k->E (.ref C) (some k) H'
section
variable {P:Program}{w:World}{K:W.Frag}{mg:Str->Option Value}{base:Heap}
theorem Fun.okX {x qual:Str}{st:Stmt}{f:Addr}{fd:FuncData}{N ps:List Str}{k n l:Nat}{kd:Kd}{m:List PV->Rr PV} (F:Fun K x qual st f fd) (S:ZF N ps (Zi st)) (hn:ps.length=n) (hl:N.length-n=l)
  (hbody:∀(cdv:Value) (A:Around) (outer:List Env) (s:Shared) (H:Hp) (E:XK),U0 k (A.deeper (envOfC qual (Zi st) s.heap.objs.size f cdv)) ->
   ∃t g Y,Y.r=kd/\PSs (QK (CX1 P w) P w K mg base N qual (Zi st) f cdv A outer s H E) (Z7 st) t/\DS K (fun e H'=>W1 K e E H') (List.replicate n .S++List.replicate l .U) Y t g/\∀xs,Ref (m xs) (g (xs++List.replicate l .non)).out) (hkN:kd≠.N:=by nofun) (hkM:kd≠.M:=by nofun) :
  Va P w K mg base (CX1 P w) (k+1) f fd ps (spF K n kd (W1 K) m):=by
 obtain⟨oc,od,kV,doc,pm,an,cdv,ct,osl,rfl,lk,hcd⟩:=F.ex
 refine Zgx lk hcd S (fun vs H Q E h=>?_) fun A outer s H vs Q E hr h=>?_
 ·obtain⟨B,xs,h1,h2,_⟩:=h
  rw[h1.length,h2,hn]
 ·obtain⟨B,xs,h1,h2,dn⟩:=h
  obtain⟨t,g,Y,hY,ht,hd,href⟩:=hbody cdv A outer s H E hr
  refine⟨t,ht, ?_⟩
  have A0:=Ag.init (n:=l) h1
  have est:VL N vs=vs.map some++List.replicate l none:=by
   unfold VL
   rw[h1.length,h2,hl]
  rw[est]
  rw[h2] at A0
  refine hd _ H H _ _ _ _ A0 ?_
  have hdn:Dn (g (xs++List.replicate l .non)).out (fun x=>∀v H',Z6 H H'->Zen K B H kd x v H'->Q v H') (fun e=>∀H',Z6 H H'->W1 K e E H'):=by
   rcases href xs with e|e
   ·rw[e] at dn;exact dn.elim
   ·rw[<- e];exact dn
  have retK:∀{x v H'},Zen K (fun a=>B a\/H a=none) H kd x v H'->Zen K B H kd x v H':=fun {x v H'} h=>by
   cases kd with
   |P=>exact h
   |F=>exact h
   |T=>exact Rep.mono (fun a us s r=>⟨r,s.elim id .inr⟩) (fun a us r=>r) h
   |Z=>exact Rep.mono (fun a us s r=>⟨r,s.elim id .inr⟩) (fun a us r=>r) h
   |A=>exact Rep.mono (fun a us s r=>⟨r,s.elim id .inr⟩) (fun a us r=>r) h
   |N=>exact h
   |M=>exact h
  cases e:g (xs++List.replicate l .non) with
  |next ρ =>
   rw[e] at hdn
   refine fun σ' H' F' fr A'=>hdn .non H' A'.same ?_
   cases kd with
   |P=>exact⟨rfl,rfl⟩
   |F=>exact⟨[],⟨rfl,rfl⟩,by simp⟩
   |T=>exact rfl
   |Z=>exact rfl
   |A=>exact rfl
   |N=>exact absurd rfl hkN
   |M=>exact absurd rfl hkM
  |ret x=>rw[e] at hdn;exact fun v H' s r=>hdn v H' s (retK (hY▸r))
  |exc q=>rw[e] at hdn;exact fun H' s=>hdn H' s
  |brk ρ=>rw[e] at hdn;exact hdn.elim
  |cont ρ=>rw[e] at hdn;exact hdn.elim
  |bad=>rw[e] at hdn;exact hdn.elim
end
section
variable {K:W.Frag}{n:Nat}{m:List PV->Rr PV}{ta:TA}{Γ Γ':List Md}{fa:List PV->Rr (List PV)}{E:XK}
noncomputable abbrev EX1 (K:W.Frag) (E:XK):PX->Hp->Prop:=fun e H'=>W1 K e E H'
theorem ZhP (hn:Len fa n) (ha:DAA K (EX1 K E) Γ Γ' ta fa):DE K (EX1 K E) Γ Γ' .P (Zam (spF K n .P (W1 K) m) (fun _=>E) ta) (fun ρ=>(fa ρ).bind m):=UY (E:=E) (W:=W1 K) (fun σ H Q h=>h) (fun e H' h=>h) hn ha
theorem ZgL {EX:PX->Hp->Prop} (hn:Len fa n) (hm:∀xs q,m xs≠.exc q) (ha:DAA K EX Γ Γ' ta fa):DE K EX Γ Γ' .F (Ql (spF K n .F W0 m) ta) (fun ρ=>(fa ρ).bind m):=fun B H0 H σ ρ F R Q A d=>by
 refine ha B H0 H σ ρ F R _ A (d.bind.imp (fun xs hx d vs H1 F1 s1 f1 p1 A1=>?_) fun e q=>q)
 refine⟨fun _=>True,xs,p1,hn ρ xs hx, ?_⟩
 cases e:m xs with
 |ok x =>
  rw[e] at d
  intro v H2 s2 r
  obtain⟨G,r1,r2⟩:=r
  exact d v H2 (s1.trans s2) ⟨F1,f1,G,r1,fun a ha=>⟨(A1.fresh (r2 a ha)).1,.inl (s1.free (r2 a ha))⟩,A1.more s2 r2 r1.alive⟩
 |exc q=>exact(hm xs q e).elim
 |bad=>rw[e] at d;exact d.elim
theorem ZhO {EX:PX->Hp->Prop} (hn:Len fa n) (hm:∀xs q,m xs≠.exc q) (ha:DAA K EX Γ Γ' ta fa):DE K EX Γ Γ' .P (Ql (spF K n .P W0 m) ta) (fun ρ=>(fa ρ).bind m):=fun B H0 H σ ρ F R Q A d=>by
 refine ha B H0 H σ ρ F R _ A (d.bind.imp (fun xs hx d vs H1 F1 s1 f1 p1 A1=>?_) fun e q=>q)
 refine⟨fun _=>True,xs,p1,hn ρ xs hx, ?_⟩
 cases e:m xs with
 |ok x=>rw[e] at d;exact fun v H2 s2 r=>d v H2 (s1.trans s2) ⟨F1,f1,r.1,r.2,A1.grow s2⟩
 |exc q=>exact(hm xs q e).elim
 |bad=>rw[e] at d;exact d.elim
def Pm.calm (m:Pm):Prop:=∀a q,m.out a≠.exc q
theorem Pm.calm_fn {m:Pm} (h:m.calm) (xs:List PV) (q:PX):m.fn xs≠.exc q:=by
 unfold Pm.fn
 by_cases hx:∃a,m.enc a=xs/\m.pre a
 ·rw[dif_pos hx];exact h _ q
 ·rw[dif_neg hx];exact fun z=>by cases z
theorem ZaD {C:Addr}{x:Str}{Y:Tys} (hC:Zfq K x C) (hn:Len fa n) (hl:n<=1000) (ha:DAA K (EX1 K E) Γ Γ' ta fa):DS K (EX1 K E) Γ Y (ZdQ C (fun _=>E) ta) (fun ρ=>(fa ρ).thenS fun _=>.exc (x,.non)):=fun B H0 H σ ρ F D A d=>by
 refine ha B H0 H σ ρ F [] _ A (d.thenS.imp (fun xs hx d vs H1 F1 s1 f1 p1 A1=>?_) fun e q=>q)
 exact⟨by rw[p1.length,hn ρ xs hx];exact hl,fun ea hea=>d H1 A1.same C ea hC hea⟩
end
theorem PS.nox {X:Cx}{st:Stmt}{t:TS} (h:PS X.nox st t):PS X st t:=fun pins s σ H D I hw =>
 wpAny_mono (h pins s σ H D (I.wish _) hw) (fun _ _ q=>q.unwish) fun _ _ z=>False.elim z
section
end
noncomputable def ZhY (K:W.Frag) (n:Str):Bool:=match PySem.W.nsIn K mainGlobals n with
 |some (some (.ref C))=>PySem.W.exOk K C&&(PySem.W.kitOne K (.type "NoneType") (.ref C)==some false)&&(PySem.W.kitOne K (.ref C) (.type "ValueError")==some true)
 |_=>false
noncomputable def ZhX (K:W.Frag) (q:Str×Str×Bool):Bool:=match PySem.W.nsIn K mainGlobals q.1,PySem.W.nsIn K mainGlobals q.2.1 with
 |some (some (.ref D)),some (some (.ref C))=>(PySem.W.kitOne K (.ref D) (.ref C)==some q.2.2)&&(PySem.W.exmOne K (.ref D) (.ref C)==some q.2.2)
 |_,_=>false
noncomputable def Zhy (K:W.Frag) (ns:List Str) (ss:List (Str×Str×Bool)):Bool:=(PySem.W.kitOne K (.type "NoneType") (.type "ValueError")==some false)&&(ns.all (ZhY K)&&ss.all (ZhX K))
section
variable {K:W.Frag}{ns:List Str}{n:Str}
noncomputable def Zep (K:W.Frag) (ns:List Str):Bool:=ns.all fun n=>match PySem.W.nsIn K mainGlobals n with
 |some (some (.ref C))=>PySem.W.excIn K C Zhs "ValueError.__new__"
 |_=>false
theorem ZcP (h:Zep K ns=true) (hn:n∈ns):∃C,Zfq K n C/\PySem.W.excIn K C Zhs "ValueError.__new__"=true:=by
 have:=ZmN.mp h n hn
 split at this
 ·rename_i C e
  exact⟨C,e,this⟩
 ·cases this
end
theorem UP {X:Cx}:Zfs X (fun _=>E0):=fun _ _ _ _ _ _ _ h=>by obtain⟨_,_,_,_,_,_,q⟩:=h;exact q.elim
section
variable {K:W.Frag}{n:Nat}{m:List PV->Rr PV}{ta:TA}{Γ Γ':List Md}{fa:List PV->Rr (List PV)}
theorem ZhN (hn:Len fa n) (ha:DAA K X0 Γ Γ' ta fa):DE K X0 Γ Γ' .F (Zam (spF K n .F (W1 K) m) (fun _=>E0) ta) (fun ρ=>(fa ρ).bind m):=ZaK (E:=E0) (W:=W1 K) (fun σ H Q h=>h) (fun e H' h=>h.elim) hn ha
theorem ZhM (hn:Len fa n) (ha:DAA K X0 Γ Γ' ta fa):DE K X0 Γ Γ' .P (Zam (spF K n .P (W1 K) m) (fun _=>E0) ta) (fun ρ=>(fa ρ).bind m):=UY (E:=E0) (W:=W1 K) (fun σ H Q h=>h) (fun e H' h=>h.elim) hn ha
end
section
variable {K:W.Frag}{H:Hp}
theorem Trees.chg {p:Addr}{us us':List V}{y y':PV} (hp:H p=some (.lst us)):∀{xs:List PV}{vs:List V}{G:List Addr}{j:Nat}{v:V},Trees K H xs vs G->xs[j]?=some y->vs[j]?=some v ->
  (∀G2,JB K H y v G2->p∈G2/\∃G3,(∀a∈G3,a∈G2)/\JB K (upd H p (.lst us')) y' v G3)->p∈G/\∃G',(∀a∈G',a∈G)/\Trees K (upd H p (.lst us')) (xs.set j y') vs G'
 |[],_,_,_,_,_,e,_,_=>by simp at e
 |x::xs,_,_,0,v,h,e1,e2,hc=>by
  obtain⟨w,r,G1,G2,rfl,h1,h2,h3,rfl⟩:=h
  simp at e1 e2;subst e1 e2
  obtain⟨c1,G3,c2,c3⟩:=hc G1 h1
  refine⟨by simp[c1],G3++G2,fun a ha=>?_,w,r,G3,G2,rfl,c3,Trees.put hp (h3 p c1) h2,fun a ha=>h3 a (c2 a ha),rfl⟩
  rcases Zma.mp ha with z|z
  ·simp[c2 a z]
  ·simp[z]
 |x::xs,_,_,j+1,v,h,e1,e2,hc=>by
  obtain⟨w,r,G1,G2,rfl,h1,h2,h3,rfl⟩:=h
  obtain⟨c1,G',c2,c3⟩:=Trees.chg hp (j:=j) (v:=v) h2 (by simpa using e1) (by simpa using e2) hc
  refine⟨by simp[c1],G1++G',fun a ha=>?_,w,r,G1,G',rfl,JB.put hp (fun z=>h3 p z c1) h1,c3,fun a ha z=>h3 a ha (c2 a z),rfl⟩
  rcases Zma.mp ha with z|z
  ·simp[z]
  ·simp[c2 a z]
noncomputable def pPut (x:PV) (c:Int) (z:PV):Rr PV:=match x with
 |.tup xs=>match ixN xs.length c with
  |some n=>.ok (.tup (xs.set n z))
  |none=>.bad
 |_=>.bad
theorem Dn.pPut {x z:PV}{c:Int}{ok:PV->Prop}{ex:PX->Prop} (d:Dn (pPut x c z) ok ex):∃xs n,x=.tup xs/\ixN xs.length c=some n/\ok (.tup (xs.set n z)):=by
 unfold L2.pPut at d
 cases x with
 |tup xs =>
  dsimp only at d
  cases e:ixN xs.length c with
  |none=>rw[e] at d;exact d.elim
  |some n=>rw[e] at d;exact⟨xs,n,rfl,e,d⟩
 |_=>exact d.elim
variable {EX:PX->Hp->Prop}{Γ Γ1 Γ2:List Md}{k:Kd}
theorem Zbj {i:Nat}{c j:Int} (hm:Γ[i]?=some .O) :
  DS K EX Γ ⟨Γ,Γ1,Γ2,k⟩ (Zb1 (tBM K "list" QN (tOp (rIx K) (Zbl i) (tC (.int c))) (UI (tC (.int j)) Zet)))
   (fun ρ=>(pIx (gv i ρ) (.int c)).thenS fun x=>(pApp x (.int j)).thenS fun z=>(pPut (gv i ρ) c z).thenS fun w=>.next (ρ.set i w)):=fun B H0 H σ ρ F D A d=>by
 obtain⟨y,ey,d⟩:=Dn.pIx d.thenS
 obtain⟨ys,rfl,hlen,d⟩:=Dn.pApp d.thenS
 obtain⟨xs,n,ex,en,d⟩:=Dn.pPut d.thenS
 obtain⟨v,h1,h2⟩:=A.getO hm
 rw[show ρ.getD i .non=.tup xs from ex] at h2
 rw[ex] at ey
 obtain⟨a,vs,rfl,ha,ht⟩:=h2
 have eat:xs[n]?=some (.lst ys):=by
  simp only[pIx] at ey
  unfold atI at ey
  rw[en] at ey
  cases q:xs[n]? with
  |none=>simp[q] at ey
  |some z=>simp[q] at ey;rw[ey]
 obtain⟨u,G2,e1,e2,e3⟩:=ht.get eat
 obtain⟨p,us,G4,rfl,hH,hu,hn,rfl⟩:=e2
 have hat:atI vs c=some (.ref p):=by unfold atI;rw[ht.length,en];exact e1
 refine⟨_,h1, ?_⟩
 refine .inr (.inl ⟨a,vs,c,.ref p,rfl,rfl,ha.sqT,hat, ?_⟩)
 refine⟨.inl ⟨rfl,_,SqL.of hH⟩,p,us,.int j,rfl,rfl,hH,by rw[hu.length];exact ZlX hlen (by decide), ?_⟩
 obtain⟨c1,G',c2,c3⟩:=Trees.chg (us':=us++[.int j]) (y':=.lst (ys++[.int j])) hH ht eat e1 (fun G5 h5=>by
  obtain⟨p',us5,G6,e,hH5,hu5,hn5,rfl⟩:=h5
  cases e
  rw[hH] at hH5;cases hH5
  refine⟨by simp,p::G6,fun b hb=>hb,p,_,G6,rfl,ZO, ?_,hn5,rfl⟩
  have:=Trees.append (Trees.put (o:=.lst (us++[.int j])) hH hn5 hu5) (Trees.one (x:=.int j) (v:=.int j) (F:=[]) ⟨rfl,rfl⟩) (by simp)
  rw[ZmF] at this
  exact this)
 exact d σ _ (Uz F i G') (Uq (Z6.refl _) (fun _ _ h=>h) c1 fun b hb=>.inr ⟨i,c2 b hb⟩) (Ag.chg (G:=[]) A hm c1 (fun b hb=>.inl (c2 b hb)) (by simp) ⟨_,h1,a,vs,rfl,SqT.put hH ha,c3⟩)
end
theorem ZeK {g:Bool->Bool}{a b c d:Bool}:QJ g (.lst [.bl a,.bl b]) (.lst [.bl c,.bl d])=.ok (.bl (g (a==c&&b==d))):=by
 unfold QJ
 have h:∀a b:Bool,okD (.lst [.bl a,.bl b])=true:=fun a b=>by simp[okD,PV.noX,PV.noXs,PV.dat,PV.dats,PyData.canLay0,PyData.canLayAll0,PyData.depth,PyData.depthAll]
 rw[h,h]
 cases a<;>cases b<;>cases c<;>cases d<;>simp[PV.dat,PV.dats,PyData.eqv,PyData.eqvAll]
section
end
theorem ZX {ns ms:List Int}:ns.map PV.int=ms.map PV.int ↔ ns=ms:=⟨Zcx,fun h=>by rw[h]⟩
noncomputable def orX (o:Option Str) (x:PV):Rr PV:=match o with
 |none=>.ok x
 |some n=>.exc (n,.non)
theorem Jl {b:PV->List PV->RS}{xs:List PV}{ρ:List PV}{W:RS} (hw:U2 b xs ρ=W) (I:Nat->List PV->Prop) (h0:I 0 ρ) (h:∀i x ρ,xs[i]?=some x->I i ρ->(b x ρ).good (I (i+1))) :
  ∃ρ',W=.next ρ'/\I xs.length ρ':=by
 obtain⟨ρ',h1,h2⟩:=ZdB I h0 h
 exact⟨ρ',hw.symm.trans h1,h2⟩
theorem Zcz {b:PV->List PV->RS}{xs:List PV}{ρ:List PV}{W:RS} (hw:U2 b xs ρ=W) (n:Nat) (I:Nat->List PV->Prop) (h0:I 0 ρ) (h:∀i x ρ,i<n->xs[i]?=some x->I i ρ->(b x ρ).good (I (i+1)))
  (hn:n<xs.length) {v:PV} (hr:∀x ρ,xs[n]?=some x->I n ρ->b x ρ=.ret v):W=.ret v:=by
 subst hw
 have key:∀m i ρ,n=i+m->I i ρ->U2 b (xs.drop i) ρ=.ret v:=by
  intro m
  induction m with
  |zero =>
   intro i ρ hl hI
   have hi:i<xs.length:=by omega
   rw[Zm0 hi]
   obtain rfl:n=i:=by omega
   simp only[U2,hr _ ρ (ZlU hi) hI]
   rfl
  |succ m ih =>
   intro i ρ hl hI
   have hi:i<xs.length:=by omega
   rw[Zm0 hi]
   obtain⟨ρ',h1,h2⟩:=RS.good_ex (h i _ ρ (by omega) (ZlU hi) hI)
   simp only[U2]
   rcases h1 with h1|h1<;>(rw[h1];exact ih (i+1) ρ' (by omega) h2)
 exact key n 0 ρ (by omega) h0
theorem Jr {c:List PV->Rr Bool}{b:List PV->RS}{ρ:List PV}{W:RS} (hw:JI c b ρ=W) (N:Nat) (I:Nat->List PV->Prop) (h0:I 0 ρ) (hs:∀i ρ,i<N->I i ρ->c ρ=.ok true/\(b ρ).good (I (i+1))) (he:∀ρ,I N ρ->c ρ=.ok false) :
  ∃ρ',W=.next ρ'/\I N ρ':=by
 subst hw
 have key:∀m i ρ,N=i+m->I i ρ->∃ρ',JN c b (m+1) ρ=some (.next ρ')/\I N ρ':=by
  intro m
  induction m with
  |zero =>
   intro i ρ hl hI
   obtain rfl:N=i:=by omega
   refine⟨ρ, ?_,hI⟩
   unfold JN
   rw[he ρ hI]
  |succ m ih =>
   intro i ρ hl hI
   obtain⟨h1,h2⟩:=hs i ρ (by omega) hI
   obtain⟨ρ',h3,h4⟩:=RS.good_ex h2
   obtain⟨ρ2,h5,h6⟩:=ih (i+1) ρ' (by omega) h4
   refine⟨ρ2, ?_,h6⟩
   unfold JN
   rw[h1]
   rcases h3 with h3|h3<;>(rw[h3];exact h5)
 obtain⟨ρ',h1,h2⟩:=key N 0 ρ (by omega) h0
 exact⟨ρ',Qe h1,h2⟩
theorem Zcl {f:PV->Rr PV}{g:Int->Bool}{ns:List Int} (h:∀z∈ns,f (.int z)=.ok (.bl (g z))):ZcN f (ns.map PV.int)=.ok ((ns.map g).map PV.bl):=by
 induction ns with
 |nil=>rfl
 |cons n ns ih =>
  simp only[Zmd,ZcN,h n (by simp),Rr.bind_ok,ih fun z hz=>h z (by simp[hz])]
theorem V8 {f:PV->Rr PV}{g:Nat->Int}{lo:Int}{n:Nat} (h:∀i,i<n->f (.int (lo+(i:Nat)))=.ok (.int (g i))):ZcN f (ZaT lo n)=.ok (((List.range n).map g).map PV.int):=by
 unfold ZaT
 have:∀l:List Nat,(∀i∈l,i<n)->ZcN f (l.map fun(k:Nat)=>PV.int (lo+(k:Int)))=.ok ((l.map g).map PV.int):=by
  intro l
  induction l with
  |nil=>intro _;rfl
  |cons a l ih =>
   intro hl
   simp only[Zmd,ZcN,h a (hl a (by simp)),Rr.bind_ok,ih fun i hi=>hl i (by simp[hi])]
 exact this _ fun i hi=>Zmp.mp hi
theorem Zdn (bs:List Bool):ZfX [.lst (bs.map PV.bl)]=.ok (.bl (bs.all id)):=by simp only[ZfX,ZcH]
theorem ZcK {ns:List Int}{p:Int->Prop} [DecidablePred p]:(ns.map fun z=>decide (p z)).all id=decide (∀x∈ns,p x):=by
 rw[Bool.eq_iff_iff,ZmN,decide_eq_true_iff]
 simp
theorem ZdH {ns:List Int}{l:Int} (h0:0<=l):Zg4 (ns.map PV.int) (some l) none=(ns.drop l.toNat).map PV.int:=by
 unfold Zg4 HT.sIx
 simp only[Zmh]
 rw[if_neg (by omega),<- List.map_drop,<- List.map_take]
 congr 1
 rw[List.take_of_length_le (by simp)]
 by_cases h:l.toNat<=ns.length
 ·rw[Nat.min_eq_left h]
 ·rw[Zm3 (by omega),Zm3 (by omega)]
theorem ZfK {i j:Int} (h1:-(10^80)<=i) (h2:i<=10^80) (h3:-(10^80)<=j) (h4:j<=10^80):Zhf (.int i) (.int j)=.ok (.int (i*j)):=ZeD (Zfj 80 80 (by omega) (by omega))
theorem Zdh {k:Int}{z:Int} (h1:-(2^63)<=k) (h2:k<=1000000):ZfJ [.int z] (.int k)=.ok (.lst ((List.replicate k.toNat z).map PV.int)):=by
 have:=ZbT (ns:=[z]) (k:=k) (by simp;omega) h1 (by omega)
 simp only[Zmd,Zmn] at this
 rw[this,List.flatten_replicate_singleton]
theorem VR {ns:List Int} (h:ns≠[]):pIx (.lst (ns.map PV.int)) (.int (-1))=.ok (.int (ns.getD (ns.length-1) 0)):=by
 have hl:0<ns.length:=ZmA.mpr h
 have:atI (ns.map PV.int) (-1)=some (.int (ns.getD (ns.length-1) 0)):=by
  unfold atI ixN
  rw[if_neg (by omega),Zmh,if_pos (by omega)]
  show (ns.map PV.int)[(-1+(ns.length:Int)).toNat]?=_
  rw[show (-1+(ns.length:Int)).toNat=ns.length-1 by omega,Zmm,ZlU (by omega),ZlS,ZlU (by omega)]
  rfl
 simp only[pIx,this]
theorem Zdp {x:PV}:orX none x=.ok x:=rfl
theorem Zdo {x:PV}{n:Str}:orX (some n) x=.exc (n,.non):=rfl
theorem ZbF {n:Nat}:List.replicate (n+1) PV.non=PV.non::List.replicate n PV.non:=rfl
theorem ZbE:List.replicate 0 PV.non=[]:=rfl
theorem ZeF {a b c:PV}:Zft [.tup [a,b,c]]=.ok (.int 3):=rfl
section
end
theorem Zdk {g:Bool->Bool}:ZgJ g .non=.ok (.bl (g true)):=rfl
theorem Zdl {g:Bool->Bool}{xs:List PV}:ZgJ g (.lst xs)=.ok (.bl (g false)):=rfl
theorem ZeI {g:Bool->Bool}{ns:List Int}:QJ g (.lst (ns.map PV.int)) (.lst [])=.ok (.bl (g (decide (ns=[])))):=UQ ns []
theorem ZfW {g:Bool->Bool}:QJ g (.lst []) (.lst [])=.ok (.bl (g true)):=UQ [] []
section
variable {X:Cx}{pins:List (Addr×Obj)}{σ:St}{H:Hp}{s:Shared}{h':Heap}
theorem Inv.turned2 {t':Nat}{it e:Addr} (I:Inv X pins σ H s) (k:∀b o,b≠e->b≠it->s.heap.get? b=some o->h'.get? b=some o)
  (f:∀b,b=e\/b=it->H b=none/\b≠X.env.locals/\(b∈X.ex\/X.s₀.heap.objs.size<=b)/\(∀x c,X.env.cells.lookup x=some c->c≠b)/\∀p∈X.pn++pins,p.1≠b):Inv X pins σ H { s with heap:=h',toks:=t' }:=by
 have nit:∀b u,H b=some u->b≠e/\b≠it:=fun b u q=>by
  refine⟨fun z=>?_,fun z=>?_⟩
  ·rw[z,(f e (.inl rfl)).1] at q;cases q
  ·rw[z,(f it (.inr rfl)).1] at q;cases q
 refine I.step (g':=s.gens) (d':=s.drawn) (ch:=[e,it]) (fun b hb=>?_) (fun b o _ _ hc q _=>k b o (fun z=>hc (by simp[z])) (fun z=>hc (by simp[z])) q) (fun b o _ _ hc q _=>⟨o.slots,k b o (fun z=>hc (by simp[z])) (fun z=>hc (by simp[z])) q⟩) (fun _ _ _ _ n=>n)
  (fun b o hc q=>⟨o,k b o (fun z=>hc (by simp[z])) (fun z=>hc (by simp[z])) q⟩) (fun _ _ q=>q) (fun _ _ _ q=>q) (fun b ps q=>⟨#[],by rw[q];simp⟩) (fun m hm=>?_) (fun b u q=>?_) I.bare
 ·obtain⟨g0,g1,g2,g3,g4⟩:=f b (by simpa using hb)
  exact⟨g2,g1,g3,g4⟩
 ·obtain⟨o,es,ep,ho,r⟩:=hm
  exact⟨o,es,ep,k _ o (Ne.symm (f e (.inl rfl)).2.1) (Ne.symm (f it (.inr rfl)).2.1) ho,r⟩
 ·refine(I.hok b u q).stay (fun c v hc q2=>?_) (fun _ q2=>q2) fun _ _ q2=>q2
  have:c≠e/\c≠it:=by
   rcases hc with z|z
   ·rw[z];exact nit b u q
   ·exact nit c _ z
  exact k c v this.1 this.2 q2
theorem Inv.adoptT {D:Addr}{ys:List V}{its:List Value} (I:Inv X pins σ H s) (hn:H D=none) (h1:X.s₀.heap.objs.size<=D) (hL:D≠X.env.locals) (hc:∀x c,X.env.cells.lookup x=some c->c≠D)
  (hp:∀p∈X.pn++pins,p.1≠D) (ho:s.heap.get? D=some { cls:=.type "tuple",data:=.seq its.toArray }) (r:ZZ ys its) (hz:ys.length<=sizeLine):Inv X pins σ (upd H D (.tup ys)) s:=by
 refine I.step (h':=s.heap) (g':=s.gens) (d':=s.drawn) (t':=s.toks) (ch:=[D]) (fun b hb=>?_) (fun b o _ _ _ e _=>e) (fun b o _ _ _ e _=>⟨o.slots,e⟩) (fun b o hb _ e=>?_) (fun b o _ e=>⟨o,e⟩)
  (fun b xs e=>?_) (fun b o u e=>?_) (fun b ps e=>⟨#[], ?_⟩) (fun m hm=>hm) (fun b u e=>?_) I.bare
 ·have e:b=D:=by simpa using hb
  subst e
  exact⟨.inr h1,hL,hc,hp⟩
 ·rw[Z1 (by simpa using hb)];exact e
 ·rw[Z1 (Z3 e hn)];exact e
 ·rw[Z1 (Z3 e hn)];exact e
 ·rw[Z1 (Z3 e hn),e];simp
 ·by_cases hb:b=D
  ·subst hb
   rw[ZO] at e;cases e
   exact⟨hz,its,r,_,ho,rfl,_,rfl⟩
  ·rw[Z1 hb] at e
   exact(I.hok b u e).stay (fun c v _ q=>q) (fun c q=>by rw[Z1 (Z3 q hn)];exact q) fun c xs q=>by rw[Z1 (Z3 q hn)];exact q
end
noncomputable def Ite (K:W.Frag) (a:Addr):It:=
 ⟨fun i H=>∃xs x,SqL K H a xs/\xs[i]?=some x,fun i H v H'=>∃t x,v=.ref t/\H t=none/\H'=upd H t (.tup [.int i,x])/\∀xs,SqL K H a xs->xs[i]?=some x,fun i H=>∃xs,SqL K H a xs/\xs.length<=i⟩
theorem Zbr {P:Program}{w:World}{K:W.Frag}{elts:List Expr}{x1:Nat}{tpos:Pos} (a e it:Addr) (hne:e≠it):Zfz P w K (.Tuple elts x1 tpos) (Ite K a) [e,it] e (fun i h=>∃old,IsEnum h e it i old/\h.IsListIter it a i) where
 mem:=by simp
 obj:=fun i h ⟨old,s1,s2⟩ b hb=>by
  rcases Zmf.mp hb with z|z
  ·subst z
   exact⟨_,s1,fun v z=>by
    have z':Data.fields _=Data.cell v:=z
    cases z'⟩
  ·have z:b=it:=by simpa using z
   subst z
   obtain⟨o,e,c,d⟩:=s2
   exact⟨o,e,fun v z=>by rw[d] at z;cases z⟩
 keep:=fun i h h' ⟨old,s1,s2⟩ k=>⟨old,k e (by simp) _ s1,s2.at fun o q=>k it (by simp) o q⟩
 item:=by
  intro X hP hw hK hc i pins s σ H E I hf ⟨old,s1,s2⟩ hg
  subst hP hw hK
  obtain⟨xs,x,hq,hx⟩:=hg
  obtain⟨its,rv,p,hz⟩:=I.list hq
  obtain⟨u,hu,ru⟩:=rv.get hx
  have fz:∀b,b=e\/b=it->H b=none/\b≠X.env.locals/\(b∈X.ex\/X.s₀.heap.objs.size<=b)/\(∀x c,X.env.cells.lookup x=some c->c≠b)/\∀p∈X.pn++pins,p.1≠b:=fun b hb=>by
   obtain⟨f0,f1,f2,f3,f4,f5⟩:=hf b (by simpa using hb)
   exact⟨f0,f1,f3,f4,f5⟩
  refine wpAny_pyNext_enum_item s1 s2 p.isList (x:=u) (by simpa using hu) hne fun h1 e1 i1 t1 z1 k1=>?_
  refine⟨_,rfl, ?_⟩
  refine wpAny_letOwnedTupleGo_enum e1 fun h2 e2 sb2=>?_
  have I2:Inv X pins σ H { s with heap:=h2,toks:=s.toks+1 }:=I.turned2 (fun b o n1 n2 q=>sb2.extBut b o n1 (k1 b o n1 n2 q)) fz
  have hfr:=I.hok.fresh (ZlY s.heap.objs.size)
  have het:s.heap.objs.size≠e:=ZmQ (Heap.lt_size s1)
  have fsz:=I.fpOk (H':=H) (ZlY s.heap.objs.size) hfr
  obtain⟨g0,g1,g2,g3,g4,g5⟩:=fsz
  have I3:=I2.adoptT (D:=s.heap.objs.size) (ys:=[.int i,x]) (its:=[.int i s.toks,u]) hfr I.sz g1 g4 g5 (sb2.extBut _ _ het t1) (.cons ⟨_,rfl⟩ (.cons ru .nil)) (show 2<=sizeLine by decide)
  refine⟨.ref s.heap.objs.size,_,I3,rfl,⟨_,x,rfl,hfr,rfl,fun ys hy=>by rw[I.list_inj hy hq];exact hx⟩,⟨u,by
   have:((i+1:Nat):Int)=(i:Int)+1:=by omega
   rw[this];exact e2,i1.extBut sb2.extBut (Ne.symm hne)⟩,fun b hb=>?_⟩
  have hbn:b≠s.heap.objs.size:=by
   rcases Zmf.mp hb with z|z
   ·rw[z];exact het.symm
   ·have z:b=it:=by simpa using z
    obtain⟨o,q,_⟩:=s2
    rw[z];exact Zmk (Heap.lt_size q)
  rw[Z1 hbn]
  exact(hf b hb).1
 done:=by
  intro X hP hw hK hc i pins s σ H E I hf ⟨old,s1,s2⟩ hg
  subst hP hw hK
  obtain⟨xs,hq,hx⟩:=hg
  obtain⟨its,rv,p,hz⟩:=I.list hq
  obtain⟨f0,f1,f2,f3,f4,f5⟩:=hf it (by simp)
  have hl:=rv.length
  exact wpAny_pyNext_enum_end (I.ok.hd hc) s1 s2 p.isList (by simp;omega) fun h' eb=>⟨rfl,I.turned (t':=s.toks) (fun b o hb q=>eb b o hb q) f0 f1 f3 f4 f5⟩
 self:=fun _ _ _ _ _ ⟨old,st,_⟩ h=>wpAny_pyIter_enum st h
section
variable {X:Cx}{elts:List Expr}{x1:Nat}{tpos:Pos}
noncomputable def ZeT (K:W.Frag) (tl:TA):TI:=fun σ H R=>tl σ H fun vs H1=>∃a,vs=[.ref a]/\(∃xs,SqL K H1 a xs)/\R (Ite K a) H1
theorem QE:bootBuiltins "enumerate"=some (.type "enumerate"):=by decide +kernel
theorem Ze5 {l:Expr}{tl:TA}{p pos:Pos} (hg:Gl X "enumerate") (hm:X.mg "enumerate"=none) (ha:PA X [l] tl) (hs:starEach [l] X.env=[(false,eval l X.env)]:=by rfl):PI X (.Tuple elts x1 tpos) (.Call (.Name "enumerate" p) [l] [] pos) (ZeT X.K tl):=by
 intro pins s σ H R I h
 refine Call_ (UA I hg hm QE (PyProof.Rows.callWith_type1 (thn (ha pos pins s σ H _ I h) fun us s1 ⟨vs,H1,I1,r1,q1⟩=>?_) hs rfl))
 obtain⟨a,e,⟨xs,hq⟩,q⟩:=q1
 subst e
 cases r1 with
 |cons r rr =>
  cases rr
  cases r
  obtain⟨its,rv,pl,hz⟩:=I1.list hq
  refine call_enumerate_list pl.isList fun h' e1 i1 z1 k1=>?_
  refine wpAny_pyIter_enum e1 ?_
  have I2:Inv X pins σ H1 { s1 with heap:=h' }:=I1.kept (t':=s1.toks) k1
  refine⟨s1.heap.objs.size+1,[s1.heap.objs.size+1,s1.heap.objs.size],_,_,H1,rfl,I2,Zbr a _ _ (Nat.succ_ne_self _),⟨_,e1,i1⟩,fun b hb=>?_,q⟩
  have hb':s1.heap.objs.size<=b:=by
   rcases Zmf.mp hb with z|z
   ·rw[z];exact Nat.le_succ _
   ·have z:b=s1.heap.objs.size:=by simpa using z
    rw[z];exact ZlY _
  exact I1.fpOk hb' (I1.hok.fresh hb')
theorem Zav {K:W.Frag}{l:Expr}{tl:TA}{p pos:Pos} (hg:Gl X "enumerate") (hm:X.mg "enumerate"=none) (ha:PA X [l] tl) (hs:starEach [l] X.env=[(false,eval l X.env)]:=by rfl) (e:X.K=K:=by rfl):PI X (.Tuple elts x1 tpos) (.Call (.Name "enumerate" p) [l] [] pos) (ZeT K tl):=by subst e;exact Ze5 hg hm ha hs
end
noncomputable def VN (xs:List PV):List PV:=xs.mapIdx fun i x=>.tup [.int (i:Nat),x]
section
variable {K:W.Frag}{H:Hp}{EX:PX->Hp->Prop}{Γ Γ':List Md}
theorem Zd2 {a:Addr}{xs:List PV}{S:Addr->Prop} (h:Rep K H S (.lst xs) (.ref a)):ItP K S (Ite K a) (VN xs) H:=by
 obtain⟨a',vs,e,hn,hr⟩:=h
 cases e
 intro i
 constructor
 ·intro x hx
  unfold VN at hx
  rw[Zng] at hx
  cases hxi:xs[i]? with
  |none=>rw[hxi] at hx;cases hx
  |some y =>
   rw[hxi] at hx
   cases hx
   obtain⟨u,e1,e2⟩:=hr.get hxi
   refine⟨⟨vs,u,JD hn,e1⟩,fun v H' ⟨t,z,e3,e4,e5,e6⟩=>?_⟩
   have:=e6 vs (JD hn)
   rw[e1] at this;cases this
   subst e3 e5
   have sm:Z6 H (upd H t (.tup [.int i,u])):=Z6.upd (Z6.refl H) e4
   exact⟨sm,t,_,rfl,⟨ZO,trivial⟩,⟨_,_,rfl,rfl,_,_,rfl,e2.same sm,rfl⟩⟩
 ·intro hx
  unfold VN at hx
  rw[Zng] at hx
  have:xs[i]?=none:=by cases hxi:xs[i]? with
   |none=>rfl
   |some y=>rw[hxi] at hx;cases hx
  exact⟨vs,JD hn,by rw[hr.length];exact Zmz.mp this⟩
noncomputable def Za1 (xs:List PV):Rr (List PV):=match xs with
 |[.lst ys]=>if PV.flats ys=true then .ok (VN ys) else .bad
 |_=>.bad
theorem Zbg {ys:List PV} (h:PV.flats ys=true):PV.flats (VN ys)=true:=by
 have key:∀(ys:List PV) (g:Nat->Int),PV.flats ys=true->PV.flats (ys.mapIdx fun i x=>PV.tup [.int (g i),x])=true:=by
  intro ys
  induction ys with
  |nil=>intro g _;rfl
  |cons y ys ih =>
   intro g hf
   simp only[PV.flats,Bool.and_eq_true] at hf
   rw[List.mapIdx_cons]
   simp only[PV.flats,PV.flat,hf.1,Bool.and_self,Bool.true_and]
   exact ih _ hf.2
 exact key ys _ h
theorem ZaF {ta:TA}{fa:List PV->Rr (List PV)} (ha:DAA K EX Γ Γ' ta fa):DIc K EX Γ Γ' (ZeT K ta) (fun ρ=>(fa ρ).bind Za1):=fun B H0 H σ ρ F R Q A d=>by
 refine ha B H0 H σ ρ F R _ A (d.bind.imp (fun xs _ d vs H1 F1 s1 f1 p1 A1=>?_) fun e q=>q)
 have d':=d
 unfold Za1 at d'
 split at d'
 next ys _ =>
  by_cases hf:PV.flats ys=true
  ·simp only[hf,if_true] at d'
   obtain⟨v,rfl,h1⟩:=QM p1
   obtain⟨a,us,rfl,hn,hr⟩:=id h1
   exact⟨a,rfl,⟨us,JD (S:=fun _=>True) hn⟩,d' _ H1 F1 s1 f1 A1 fun H2 F2 s2 _=>ItP.flat (Zbg hf) (Zd2 (h1.same s2))⟩
  ·simp only[hf] at d';exact d'.elim
 next=>exact d'.elim
theorem ZaW {ns:List Int}:Za1 [.lst (ns.map PV.int)]=.ok (VN (ns.map PV.int)):=by unfold Za1;simp only[Ur,if_true]
theorem QX (xs:List PV):(VN xs).length=xs.length:=by simp[VN]
variable {prog:Program}{w:World}{A:Around}{R:Result->Shared->Prop}{s:Shared}
theorem Vi {elt target iter:Expr}{ifs:List Expr}{scope:Scope}{pos:Pos}{it acc:Value}{env:Env} (I:Nat->Shared->Prop)
  (turn:∀n s,I n s->wpAny (model prog w) A (pyNext it) (fun r s₁=>match r with
   |none=>R (.ok .next) s₁
   |some v=>wpAny (model prog w) A (letOwnedTupleGo target it v) (fun _ s₁'=>wpAny (model prog w) A (assign target env v) (fun _ s₂ =>
     wpAny (model prog w) A (forIn ifs true fun c r=>if r=true then do let ok <- isTrue c env (eval c env);pure (ForInStep.yield ok) else pure (ForInStep.yield r)) (fun ok s₃ =>
      if ok=true then wpAny (model prog w) A (eval elt env) (fun x s₄ =>
       wpAny (model prog w) A (call (.builtin "list.append") [acc,x]) (fun _ s₅=>∃m,m<n/\I m s₅) (notedBy (model prog w) A env fun e s'=>R (.error e) s') s₄) (notedBy (model prog w) A env fun e s'=>R (.error e) s') s₃
      else ∃m,m<n/\I m s₃) (notedBy (model prog w) A env fun e s'=>R (.error e) s') s₂) (notedBy (model prog w) A env fun e s'=>R (.error e) s') s₁') (notedBy (model prog w) A env fun e s'=>R (.error e) s') s₁) (notedBy (model prog w) A env fun e s'=>R (.error e) s') s)
  (n:Nat) (h:I n s) :
  codeAny (model prog w) A (.compLoop (.ListComp elt [⟨target,iter,ifs,0⟩] scope pos) 0 it acc env) R s:=by
 refine codeAny_loop rfl I (fun n s hI=>?_) n h
 show wpAny _ A ((compTurn (.ListComp elt [⟨target,iter,ifs,0⟩] scope pos) 0 it acc env).onRaise (fun x=>do noteFrame x env;theTreesLotGoes x)) _ _ s
 refine wpAny_noted ?_
 rw[compTurn_list]
 refine wpAny_bind (wpAny_standAt (wpAny_bind (wpAny_mono (turn n s hI) (fun r s₁ h₁=>?_) fun _ _ h'=>h')))
 cases r with
 |none=>exact wpAny_pure h₁
 |some v =>
  refine wpAny_bind (wpAny_mono h₁ (fun _ s₁' h₁'=>?_) fun _ _ h'=>h')
  refine wpAny_bind (wpAny_mono h₁' (fun _ s₂ h₂=>wpAny_bind (wpAny_mono h₂ (fun ok s₃ h₃=>?_) fun _ _ h'=>h')) fun _ _ h'=>h')
  cases ok with
  |false=>exact wpAny_pure ⟨rfl,h₃⟩
  |true =>
   exact wpAny_bind (wpAny_bind (wpAny_mono h₃ (fun x s₄ h₄=>wpAny_bind (wpAny_mono h₄ (fun _ s₅ h₅=>wpAny_pure (wpAny_pure ⟨rfl,h₅⟩)) fun _ _ h'=>h')) fun _ _ h'=>h'))
end
noncomputable def UV (xs:List Str) (y:Str):Str:=if xs.contains y then "" else y
noncomputable def Vz (X:Cx) (scope:Scope) (xs:List Str) (C:Addr) (ex:List Addr) (s₂:Shared) (H₂:Hp):Cx:=
 { X with N:=X.N.map (UV xs)++xs,s₀:=s₂,H₀:=H₂,env:=compEnvC scope (QA scope X.env) C X.env,outer:=X.stack,ex:=ex,fn:=fun _=>false,pn:=[],xe:=fun _ _=>False }
noncomputable abbrev TB:=V->Hp->List V->Prop
noncomputable def tB2 (K:W.Frag):TB:=fun x H vs=>∃t a b,x=.ref t/\SqT K H t [a,b]/\vs=[a,b]
def PB (X:Cx) (scope:Scope) (xs:List Str) (tg:Expr) (Bd:TB):Prop:=∀C s₂ H₂ ex,∀(pins:List (Addr×Obj)) (s:Shared) (σ σx:St) (H:Hp) (x:V) (u:Value) (vs:List V) (E:Value->Shared->Prop),σ.length=X.N.length->σx.length=xs.length ->
 Inv (Vz X scope xs C ex s₂ H₂) pins (σ++σx) H s->Jq x u->Bd x H vs->wpAny (model X.prog X.w) X.A (assign tg (Vz X scope xs C ex s₂ H₂).env u) (fun _ s'=>Inv (Vz X scope xs C ex s₂ H₂) pins (σ++vs.map some) H s') E s
def PCi (X:Cx) (ifs:List Expr) (t:TT):Prop:=∀(pins:List (Addr×Obj)) (s:Shared) (σ:St) (H:Hp) (Q:Bool->Hp->Prop) (E:Value->Shared->Prop),Inv X pins σ H s->t σ H Q ->
 wpAny (model X.prog X.w) X.A (forIn ifs true fun c r=>if r=true then do let ok <- isTrue c X.env (eval c X.env);pure (ForInStep.yield ok) else pure (ForInStep.yield r)) (TP X pins σ Q) E s
noncomputable def Zhz:TT:=fun _ H Q=>Q true H
theorem ZdZ {X:Cx}:PCi X [] Zhz:=fun pins s σ H Q E I h=>wpAny_tests_nil ⟨_,I,h⟩
def Zb2 (σ:St) (Bd:TB) (tt:TT) (te:TE) (J:It) (H1:Hp) (Q:VK):Prop:=∃W:Nat->Nat->List V->Hp->Prop,(∃m,W 0 m [] H1)/\∀i m ys H2,W i m ys H2->ys.length<=sizeLine /\
 ((J.stop i H2/\∀p,H2 p=none->Q (.ref p) (upd H2 p (.lst ys))) \/
  (J.go i H2/\∃N:List V->Hp->Prop,(∀ys' H',N ys' H'->∃m',m'<m/\W (i+1) m' ys' H')/\∀x H3,J.yld i H2 x H3->∃vs,Bd x H3 vs/\tt (σ++vs.map some) H3 fun b H4=>if b=true then te (σ++vs.map some) H4 fun y H5=>N (ys++[y]) H5 else N ys H4))
noncomputable def Zal (wi:TI) (Bd:TB) (tt:TT) (te:TE):TE:=fun σ H Q=>wi σ H fun J H1=>Zb2 σ Bd tt te J H1 Q
noncomputable def JZ (N:List Str) (sc scope:Scope) (xs:List Str):Bool:=xs.all (fun x=>Uw [] sc scope x)&&decide (N.map (UV xs)++xs).Nodup&&!xs.isEmpty&&(N.all fun y=>xs.contains y || !(scope.names.lookup y==some .local))&&(scope.names.lookup (Str.ofString "")==none)
structure CkN (N:List Str) (sc scope:Scope) (xs:List Str):Prop where
 scs:∀x∈xs,JS [] sc scope x
 nd:(N.map (UV xs)++xs).Nodup
 ex:∃x,x∈xs
 noN:∀y∈N,y ∉ xs->scope.names.lookup y≠some .local
 noE:scope.names.lookup (Str.ofString "")=none
theorem Vh {N:List Str}{sc scope:Scope}{xs:List Str} (h:JZ N sc scope xs=true):CkN N sc scope xs:=by
 unfold JZ at h
 simp only[Bool.and_eq_true,ZmN,decide_eq_true_eq,Bool.not_eq_true',Bool.or_eq_true,beq_iff_eq,beq_eq_false_iff_ne] at h
 obtain⟨⟨⟨⟨h1,h2⟩,h3⟩,h4⟩,h5⟩:=h
 refine⟨fun x hx=>JS.of (h1 x hx),h2, ?_,fun y hy hn=>?_,h5⟩
 ·cases xs with
  |nil=>simp at h3
  |cons a l=>exact⟨a,by simp⟩
 ·rcases h4 y hy with z|z
  ·exact absurd (Znb.mp z) hn
  ·exact z
section
variable {X:Cx}{pins:List (Addr×Obj)}{σ:St}{s₂:Shared}{H₂:Hp}{scope:Scope}{x:Str}{xs:List Str}{tg elt iter:Expr}{ifs:List Expr}{pos:Pos}{Bd:TB}{tt:TT}{te:TE}{J:It}{fp:List Addr}{it:Addr}{tn:Nat->Heap->Prop}
theorem Jj {N0:List Str} (sc:JS N0 X.env.scope scope x) (ok:X.Ok) {y:Str}{c:Addr} (h:(QA scope X.env).lookup y=some c):X.env.cells.lookup y=some c:=by
 have hm:=PySem.mem_of_lookup h
 unfold QA at hm
 obtain⟨p,hp,e⟩:=Zm5.mp hm
 have hp':=ZmT.mp (Znp.mp hp)
 obtain⟨e1,e2⟩:=Prod.mk.inj e
 have hk:=sc.fr p hp'.1 (beq_iff_eq.mp hp'.2)
 obtain⟨c',hc'⟩:=ok.has p.1 hk
 rw[hc'] at e2
 rw[<- e1,hc']
 exact congrArg some e2
theorem Zfl {N0:List Str} (I:Inv X pins σ H₂ s₂) (sc:JS N0 X.env.scope scope x) {C:Addr} (hC:s₂.heap.objs.size<=C) (ff:∀b∈fp,Zbp X pins H₂ b) (fo:∀b∈fp,∃o,s₂.heap.get? b=some o):(Vz X scope xs C fp s₂ H₂).Ok where
 mod:=I.ok.mod
 kind:=sc.kind
 glob:=I.ok.glob
 blt:=I.ok.blt
 above:=hC
 inj:=fun y z c h1 h2=>I.ok.inj y z c (Jj sc I.ok h1) (Jj sc I.ok h2)
 has:=fun y hy=>by
  have hy':(relabel scope X.env).names.lookup y=some .cell\/(relabel scope X.env).names.lookup y=some .free:=hy
  have hf:scope.names.lookup y=some .free:=by
   rcases hy' with z|z
   ·exact(Zy sc.nc z).2 (.inl rfl)
   ·exact(Zy sc.nc z).2 (.inr rfl)
  exact VX hf
 cab:=fun y c h=>by cases h
 hd:=I.ok.hd
 frames:=I.ok.frames
 stk:=.inl rfl
 exf:=fun b hb=>by
  obtain⟨f0,f1,f2,f3,f4,f5⟩:=ff b hb
  obtain⟨o,ho⟩:=fo b hb
  exact⟨Zmk (ZlX (Heap.lt_size ho) hC),fun y c h=>f4 y c (Jj sc I.ok h)⟩
 bs:=I.bs
 bsz:=Zml I.ok.bsz I.sz
 noex:=fun b o e hb=>by
  obtain⟨f0,f1,f2,f3,f4,f5⟩:=ff b hb
  rcases f3 with z|z
  ·exact I.ok.noex b o e z
  ·exact absurd (ZlX (Heap.lt_size e) (Zml I.ok.bsz z)) (Zmu _)
 exfs:=fun b hb z=>by
  obtain⟨f0,f1,f2,f3,f4,f5⟩:=ff b hb
  rcases Zmf.mp (I.stkSub b z) with e|e
  ·exact f1 e
  ·exact f2 e
 funs:=I.stack
 frf:=I.stkFree
theorem Q9 {E:Value->Shared->Prop}{Q:VK}{RR:Value->Addr->Result->Shared->Prop} (I:Inv X pins σ H₂ s₂) (ck:CkN X.N X.env.scope scope xs) (hx:x∈xs) (hNd:X.N.Nodup) (hc:X.calm=true)
  (T:Zfz X.prog X.w X.K tg J fp it tn) (st:tn 0 s₂.heap) (ff:∀b∈fp,Zbp X pins H₂ b) (hw:Zb2 σ Bd tt te J H₂ Q)
  (hb:PB X scope xs tg Bd) (ht:∀C s₂ H₂ ex,PCi (Vz X scope xs C ex s₂ H₂) ifs tt) (he:∀C s₂ H₂ ex,PE (Vz X scope xs C ex s₂ H₂) elt te)
  (hvs:∀x H vs,Bd x H vs->vs.length=xs.length)
  (hRR:∀D C s' H' m',s₂.heap.objs.size<=C->Inv X pins σ H' s'->s'.heap.Ns C m'->H' C=none->Q (.ref D) H'->RR (.ref D) C (.ok .next) s') :
  wpAny (model X.prog X.w) X.A (newList []) (fun acc s₃=>wpAny (model X.prog X.w) X.A (newFunctionEnv scope X.env.globals (QA scope X.env) [] X.env.qual none .none (some X.env)) (fun cenv s₄ =>
   codeAny (model X.prog X.w) X.A (.compStart (.ListComp elt [⟨tg,iter,ifs,0⟩] scope pos) 0 (.ref it) acc { cenv with scope:=relabel scope X.env }) (RR acc cenv.locals) s₄) E s₃) E s₂:=by
 have sc:=ck.scs x hx
 refine wpAny_newObj_type (wpAny_newFunctionEnv sc.nc (by intro y hy;simp at hy) (fun h₁ hns₁ hsb₁=>?_) sc.kind)
 dsimp only at hns₁ hsb₁ ⊢
 generalize hP2:s₂.heap.push { cls:=.type "list",dict:=none,data:=.seq ([]:List Value).toArray }=P2 at hns₁ hsb₁ ⊢
 have hCs:P2.objs.size=s₂.heap.objs.size+1:=by rw[<- hP2,Heap.size_push]
 have hCle:s₂.heap.objs.size<=P2.objs.size:=by rw[hCs];exact Nat.le_succ _
 have hDC:s₂.heap.objs.size≠P2.objs.size:=by rw[hCs];exact Zmk (Znq _)
 generalize hCe:P2.objs.size=C at hns₁ hsb₁ hCs hCle hDC ⊢
 generalize hDe:s₂.heap.objs.size=D at hCs hCle hDC ⊢
 have fo:∀b∈fp,∃o,s₂.heap.get? b=some o:=fun b hb=>let ⟨o,e,_⟩:=T.obj _ _ st b hb;⟨o,e⟩
 have flt:∀b∈fp,b<D:=fun b hb=>by obtain⟨o,e⟩:=fo b hb;rw[<- hDe];exact Heap.lt_size e
 have old:∀b o,s₂.heap.get? b=some o->h₁.get? b=some o:=fun b o e=>by
  have hb:=Heap.lt_size e
  exact hsb₁.extBut b o (Zmk (by rw[hCs];exact Nat.lt_succ_of_lt (hDe▸hb))) (Heap.get?_push_of_some _ (hP2▸Heap.get?_push_of_some _ e))
 have hacc:h₁.get? D=some { cls:=.type "list",data:=.seq ([]:List Value).toArray 0 }:=hsb₁.extBut _ _ hDC (Heap.get?_push_of_some _ (hP2▸hDe▸Heap.get?_push_size _ rfl))
 have okB:=Zfl (x:=x) (xs:=xs) (C:=C) I sc (by rw[hDe];exact hCle) ff fo
 have hfreshD:H₂ D=none:=I.hok.fresh (by rw[hDe];exact ZlY _)
 have hfreshC:H₂ C=none:=I.hok.fresh (by rw[hDe];exact hCle)
 have I0:Inv (Vz X scope xs C fp s₂ H₂) [(D,{ cls:=.type "list",data:=.seq ([]:List Value).toArray 0 })] (σ++List.replicate xs.length none) H₂ { s₂ with heap:=h₁,toks:=s₂.toks+([]:List (Str×Value)).length }:=by
  refine⟨okB,rfl,I.bare,Un.kept old,⟨_,hns₁,fun i y v e1 e2 e3=>?_⟩,fun y c e=>?_,hfreshC,fun y c e=>I.freeC y c (Jj sc I.ok e),fun p hp=>?_,I.hok.kept old,by simp[Vz,I.len]⟩
  ·have hi:i<σ.length:=by
    by_cases hi:i<σ.length
    ·exact hi
    ·rw[ZlZ (by omega)] at e2
     rw[Zm7] at e2
     split at e2<;>cases e2
   rw[ZlV hi] at e2
   have e1':(X.N.map (UV xs)++xs)[i]?=some y:=e1
   rw[ZlV (by rw[Zmh,<- I.len];exact hi),Zmm] at e1'
   have lk:scope.names.lookup y=some .local\/scope.names.lookup y=some .free:=by
    have e3':(relabel scope X.env).names.lookup y=some .local\/(relabel scope X.env).names.lookup y=some .cell\/(relabel scope X.env).names.lookup y=some .free:=e3
    rcases e3' with z|z|z
    ·exact .inl ((Zy sc.nc z).1 rfl)
    ·exact .inr ((Zy sc.nc z).2 (.inl rfl))
    ·exact .inr ((Zy sc.nc z).2 (.inr rfl))
   obtain⟨y0,ey0,ey⟩:∃y0,X.N[i]?=some y0/\UV xs y0=y:=by
    cases q:X.N[i]? with
    |none=>rw[q] at e1';cases e1'
    |some y0=>rw[q] at e1';exact⟨y0,rfl,Option.some.inj e1'⟩
   have hy0:y0 ∉ xs:=fun z=>by
    have:y=Str.ofString "":=by rw[<- ey];unfold UV;rw[if_pos (Znb.mpr z)]
    rw[this,ck.noE] at lk
    rcases lk with z|z<;>cases z
   have ey2:y0=y:=by rw[<- ey];unfold UV;rw[if_neg (fun z=>hy0 (Znb.mp z))]
   rw[ey2] at ey0 hy0
   have e1':X.N[i]?=some y:=ey0
   have yN:y∈X.N:=ZmR e1'
   have e3':(relabel scope X.env).names.lookup y=some .local\/(relabel scope X.env).names.lookup y=some .cell\/(relabel scope X.env).names.lookup y=some .free:=e3
   have hcf:(relabel scope X.env).names.lookup y=some .cell\/(relabel scope X.env).names.lookup y=some .free:=by
    rcases e3' with z|z
    ·exact absurd ((Zy sc.nc z).1 rfl) (ck.noN y yN hy0)
    ·exact z
   have hfree:scope.names.lookup y=some .free:=by
    rcases hcf with z|z
    ·exact(Zy sc.nc z).2 (.inl rfl)
    ·exact(Zy sc.nc z).2 (.inr rfl)
   obtain⟨c,hcl⟩:=VX (X:=X) hfree
   have hcx:=Jj sc I.ok hcl
   have hvis:=sc.fr _ (PySem.mem_of_lookup hfree) rfl
   obtain⟨m,hn,hl⟩:=I.loc
   obtain⟨u,ru,hlook⟩:=hl i y v e1' e2 (.inr hvis)
   refine⟨u,ru,.inr ⟨hcf,c,hcl, ?_⟩⟩
   rcases hlook with ⟨k,_⟩|⟨k,c',ec,hcell⟩
   ·have k':X.env.scope.names.lookup y=some .local:=k
    have hv':X.env.scope.names.lookup y=some .cell\/X.env.scope.names.lookup y=some .free:=hvis
    rw[k'] at hv'
    rcases hv' with z|z<;>cases z
   ·rw[hcx] at ec;cases ec
    obtain⟨o,ho,hd⟩:=hcell
    exact⟨o,old _ _ ho,hd⟩
  ·obtain⟨v,o,ho,hd⟩:=I.cell y c (Jj sc I.ok e)
   exact⟨v,o,old _ _ ho,hd⟩
  ·have e:p=(D,{ cls:=.type "list",data:=.seq ([]:List Value).toArray 0 }):=by simpa[Vz] using hp
   subst e
   exact⟨hacc,hfreshD,hDC,(fun z=>by
    rcases Zmf.mp (I.stkSub D z) with e|e
    ·exact absurd I.lt (by rw[<- e,hDe];exact Zmu _)
    ·exact I.nofs (by rw[hDe];exact ZlY _) e),fun v z=>nomatch z⟩
 obtain⟨W,⟨m0,w0⟩,turn⟩:=hw
 have fpB:∀{H':Hp}{o:Obj},(∀b∈fp,H' b=none)->∀b∈fp,Zbp (Vz X scope xs C fp s₂ H₂) [(D,o)] H' b:=fun {H' o} hn b hb=>by
  obtain⟨f0,f1,f2,f3,f4,f5⟩:=ff b hb
  obtain⟨g1,g2⟩:=okB.exf b hb
  exact⟨hn b hb,g1,okB.exfs b hb,.inl hb,g2,fun p hp=>by
   have e:p=(D,o):=by simpa[Vz] using hp
   subst e
   exact(Zmk (flt b hb)).symm⟩
 have hσ:σ.length=X.N.length:=I.len
 have loop:∀s₃:Shared,s₃={ s₂ with heap:=h₁,toks:=s₂.toks+([]:List (Str×Value)).length } ->
   codeAny (model X.prog X.w) X.A (.compLoop (.ListComp elt [⟨tg,iter,ifs,0⟩] scope pos) 0 (.ref it) (.ref D) (compEnvC scope (QA scope X.env) C X.env)) (RR (.ref D) C) s₃:=by
  rintro s₃ rfl
  refine Vi
   (fun n s'=>∃i ys its k σx H',σx.length=xs.length/\Inv (Vz X scope xs C fp s₂ H₂) [(D,{ cls:=.type "list",data:=.seq (List.toArray its) k })] (σ++σx) H' s'/\tn i s'.heap/\(∀b∈fp,H' b=none)/\ZZ ys its/\W i n ys H') ?_ m0
   ⟨0,[],[],0,List.replicate xs.length none,H₂,by simp,I0,T.keep _ _ _ st (fun b hb o e=>old b o e),fun b hb=>(ff b hb).1,.nil,w0⟩
  rintro n s' ⟨i,ys,its,k,σx,H',hσx,I',st',fr',rv,w'⟩
  obtain⟨hz,hcase⟩:=turn i n ys H' w'
  have hpinD:=I'.pin (D,{ cls:=.type "list",data:=.seq (List.toArray its) k }) (by simp[Vz])
  rcases hcase with ⟨stop,q⟩|⟨go,N,hN,step⟩
  ·refine thn (T.done (Vz X scope xs C fp s₂ H₂) rfl rfl rfl hc i _ s' _ H' _ I' (fpB fr') st' stop) fun r s4 ⟨hr,I4⟩=>?_
   subst hr
   have pD:=I4.pin (D,{ cls:=.type "list",data:=.seq (List.toArray its) k }) (by simp[Vz])
   obtain⟨m4,hn4,_⟩:=I4.loc
   have IX:Inv X pins σ H' s4:=I.call' I4.os I4.base I4.hok I4.bare fun b hb=>by
    obtain⟨f0,f1,f2,f3,f4,f5⟩:=ff b hb
    exact⟨f3,f1,f4,f5⟩
   have IX2:=IX.adopt (D:=D) (ys:=ys) (its:=its) (n:=k) hpinD.2.1 (by rw[<- hDe];exact I.sz) (by rw[<- hDe];exact ZmQ I.lt)
    (fun y c e z=>by
     obtain⟨v,o,ho,hd⟩:=I.cell y c e
     have:=Heap.lt_size ho
     rw[hDe,z] at this
     exact Zmu _ this)
    (fun p hp z=>by
     have:=Heap.lt_size (I.pin p hp).1
     rw[hDe,z] at this
     exact Zmu _ this) pD.1 rv hz
   refine hRR D C s4 _ m4 (by rw[hDe];exact hCle) IX2 hn4 ?_ (q D hpinD.2.1)
   rw[Z1 (Ne.symm hDC)]
   exact I4.free
  ·refine thn (T.item (Vz X scope xs C fp s₂ H₂) rfl rfl rfl hc i _ s' _ H' _ I' (fpB fr') st' go) fun r s4 ⟨u,hr,h4⟩=>?_
   subst hr
   refine thn h4 fun _ s5 ⟨y,H5,I5,r5,y5,st5,fr5⟩=>?_
   have I5':=I5.pinned (fpB fr5) (T.obj _ _ st5)
   obtain⟨vs,bd5,stp⟩:=step y H5 y5
   refine thn (hb C s₂ H₂ fp _ s5 σ σx H5 y u vs _ hσ hσx I5' r5 bd5) fun _ s6 I6=>?_
   refine thn (ht C s₂ H₂ fp _ s6 _ H5 _ _ I6 stp) fun ok s6' hok=>?_
   obtain⟨H6',I6',q6'⟩:=hok
   have hvl:=hvs _ _ _ bd5
   have stay:∀{s9:Shared}{H9:Hp}{ys':List V}{its':List Value}{k':Nat},True:=fun {_ _ _ _ _}=>trivial
   cases ok with
   |false =>
    rw[if_neg Bool.false_ne_true] at q6' ⊢
    have pD6:=I6'.pin (D,{ cls:=.type "list",data:=.seq (List.toArray its) k }) (by simp[Vz])
    obtain⟨m',hm,w8⟩:=hN _ _ q6'
    refine⟨m',hm,i+1,ys,its,k,vs.map some,H6',by simp[hvl],I6'.pins_of fun p hp=>?_, ?_,fun b hb'=>?_,rv,w8⟩
    ·have e:p=(D,{ cls:=.type "list",data:=.seq (List.toArray its) k }):=by simpa using hp
     subst e
     exact⟨pD6.1,pD6.2.1,pD6.2.2.1,pD6.2.2.2.1,fun v z=>nomatch z⟩
    ·refine T.keep _ _ _ st5 fun b hb' o e=>?_
     exact(I6'.pin (b,o) (ZlT _ (ZlT _ (Jf hb' e)))).1
    ·obtain⟨o,e,d⟩:=T.obj _ _ st5 b hb'
     exact(I6'.pin (b,o) (ZlT _ (ZlT _ (Jf hb' e)))).2.1
   |true =>
   rw[if_pos rfl] at q6' ⊢
   refine wpAny_mono (he C s₂ H₂ fp _ s6' _ H6' _ I6' q6') (fun u7 s7 h7=>?_) fun _ _ f=>f.elim
   obtain⟨v7,H7,I7,r7,n7⟩:=h7
   have pD7:=I7.pin (D,{ cls:=.type "list",data:=.seq (List.toArray its) k }) (by simp[Vz])
   have hlen:=rv.length
   refine append_at (hsz:=by show its.toArray.size<=sizeLine;rw[ZlW,<- hlen];exact hz) pD7.1 fun h8 hs8 hD8=>?_
   obtain⟨m',hm,w8⟩:=hN _ _ n7
   have hD8':h8.get? D=some { cls:=.type "list",data:=.seq (its++[u7]).toArray (k+1) }:=by rw[hD8,List.push_toArray]
   have I8:Inv (Vz X scope xs C fp s₂ H₂) [] (σ++vs.map some) H7 { s7 with heap:=h8 }:=by
    refine(I7.pins_of (pins':=[]) fun p hp=>absurd hp (by simp)).turned (t':=s7.toks) (it:=D) (fun b o hb e=>(hs8.2 b hb).trans e) pD7.2.1 pD7.2.2.1 (.inr (by show s₂.heap.objs.size<=D;rw[hDe];exact ZlY _)) (fun y' c' e' z=>?_) fun p hp=>absurd (show p∈([]:List (Addr×Obj)) from by simpa[Vz] using hp) (by simp)
    obtain⟨v,o,ho,hd⟩:=I.cell y' c' (Jj sc I.ok e')
    have:=Heap.lt_size ho
    rw[hDe,z] at this
    exact Zmu _ this
   refine⟨m',hm,i+1,ys++[v7],its++[u7],k+1,vs.map some,H7,by simp[hvl],I8.pins_of fun p hp=>?_, ?_,fun b hb'=>?_,rv.append (.cons r7 .nil),w8⟩
   ·have e:p=(D,{ cls:=.type "list",data:=.seq (its++[u7]).toArray (k+1) }):=by simpa using hp
    subst e
    exact⟨hD8',pD7.2.1,pD7.2.2.1,pD7.2.2.2.1,fun v z=>nomatch z⟩
   ·refine T.keep _ _ _ st5 fun b hb' o e=>?_
    have hpb:=I7.pin (b,o) (ZlT _ (ZlT _ (Jf hb' e)))
    exact(hs8.2 b (Zmk (flt b hb'))).trans hpb.1
   ·obtain⟨o,e,d⟩:=T.obj _ _ st5 b hb'
    exact(I7.pin (b,o) (ZlT _ (ZlT _ (Jf hb' e)))).2.1
 exact codeAny_compStart_list (loop _ rfl) (T.self _ 0 _ _ _ (T.keep _ _ _ st fun b hb o e=>old b o e) (loop _ rfl))
theorem ZeA {x y:Str}{px py tp:Pos}{k:Nat} (hNd:X.N.Nodup) (hc:X.calm=true) (hchk:JZ X.N X.env.scope scope [x,y]=true:=by rfl):PB X scope [x,y] (.Tuple [.Name x px,.Name y py] k tp) (tB2 X.K):=by
 intro C s₂ H₂ ex pins s σ σx H v u vs E hσ hσx I r hb
 have ck:=Vh hchk
 have sx:=ck.scs x (by simp)
 have sy:=ck.scs y (by simp)
 obtain⟨t,a,b,rfl,hq,rfl⟩:=hb
 have ndB:=ck.nd
 obtain⟨o1,o2,rfl⟩:∃o1 o2,σx=[o1,o2]:=by
  match σx,hσx with
  |[a,b],_=>exact⟨a,b,rfl⟩
 have e1:(σ++[o1,o2]).set X.N.length (some a)=σ++[some a,o2]:=by
  rw[<- hσ];simp
 have e2:(σ++[some a,o2]).set (X.N.length+1) (some b)=σ++[some a,some b]:=by
  rw[<- hσ]
  show List.set (σ++([some a,o2]:St)) _ _=_
  rw[List.set_append_right _ _ (Nat.le_succ _)]
  simp
 have g1:PG (Vz X scope [x,y] C ex s₂ H₂) (.Name x px) (UW X.N.length):=JE ndB (by
  show (X.N.map (UV [x,y])++[x,y])[X.N.length]?=some x
  rw[ZlZ (by simp)];simp) (.inl (lookup_relabel_local sx.var)) (.inr (lookup_relabel_local sx.var))
 have g2:PG (Vz X scope [x,y] C ex s₂ H₂) (.Name y py) (UW (X.N.length+1)):=JE ndB (by
  show (X.N.map (UV [x,y])++[x,y])[X.N.length+1]?=some y
  rw[ZlZ (by simp)];simp) (.inl (lookup_relabel_local sy.var)) (.inr (lookup_relabel_local sy.var))
 have g:PG (Vz X scope [x,y] C ex s₂ H₂) (.Tuple [.Name x px,.Name y py] k tp) (ZhI X.K 2 (ZeX (UW X.N.length) (ZeX (UW (X.N.length+1)) ZhK))):=ZfG (X:=Vz X scope [x,y] C ex s₂ H₂) hc (Zaw g1 (Zaw g2 Ze6))
 refine wpAny_mono (g pins s _ H _ _ (fun σ' H'=>σ'=σ++[some a,some b]/\H'=H) I r ⟨t,[a,b],rfl,hq,rfl,a,[b],rfl,b,[],rfl,rfl, ?_⟩) (fun _ s' hq'=>?_) fun _ _ z=>z.elim
 ·exact⟨by rw[e1,e2],rfl⟩
 ·obtain⟨σ',H',I',e3,e4⟩:=hq'
  subst e3 e4
  exact I'
theorem Zdb {wi:TI} (hi:PI X tg iter wi) (hb:PB X scope xs tg Bd) (ht:∀C s₂ H₂ ex,PCi (Vz X scope xs C ex s₂ H₂) ifs tt) (he:∀C s₂ H₂ ex,PE (Vz X scope xs C ex s₂ H₂) elt te) (hvs:∀x H vs,Bd x H vs->vs.length=xs.length) (hNd:X.N.Nodup) (hc:X.calm=true)
  (hclos:closureFor scope X.env=pure (QA scope X.env):=by rfl) (hchk:JZ X.N X.env.scope scope xs=true:=by rfl) (hs:∀x,foldedSetIterable iter X.env x=pure x:=by exact fun _=>rfl) :
  PE X (.ListComp elt [⟨tg,iter,ifs,0⟩] scope pos) (Zal wi Bd tt te):=by
 intro pins s σ H Q I h
 have ck:=Vh hchk
 obtain⟨x,hx⟩:=ck.ex
 have sc:=ck.scs x hx
 rw[eval_ListComp]
 refine wpAny_comprehension_free (use:=none) rfl hs hclos sc.kind sc.locs (thn (hi pins s σ H _ I h) fun xv s₁ h₁=>thn h₁ fun itv s₂ h₂=>?_)
 obtain⟨it,fp,tn,J,H2,e,I2,T,st2,f2,q⟩:=h₂
 subst e
 refine Q9 (RR:=fun acc C=>compPost (model X.prog X.w) X.A X.xe none (EP X pins σ Q) acc C) I2 ck hx hNd hc T st2 f2 q hb ht he hvs ?_
 intro D C s' H' m' hC I' hn hC0 hq
 refine⟨m',hn,fun h'' hs''=>⟨.ref D,H', ?_,rfl,hq⟩⟩
 refine I'.turned (t':=s'.toks) (it:=C) (fun b o hb e=>(hs''.2 b hb).trans e) hC0 (ZmQ (ZlX I2.lt hC)) (.inr (Zml I2.sz hC)) (fun y c e z=>?_) fun p hp z=>?_
 ·obtain⟨v,o,ho,hd⟩:=I2.cell y c e
  exact absurd (Heap.lt_size ho) (ZmW.mpr (by rw[z];exact hC))
 ·exact absurd (Heap.lt_size (I2.pin p hp).1) (ZmW.mpr (by rw[z];exact hC))
noncomputable def Qk (i:Nat) (wi:TI) (Bd:TB) (tt:TT) (te:TE):TS:=fun D σ H=>Zal wi Bd tt te σ H fun v H'=>D.nx (σ.set i (some v)) H'
theorem QO {i:Nat}{y:Str}{py spos:Pos}{wi:TI} (hN:X.N.Nodup) (hi:X.N[i]?=some y) (hit:PI X tg iter wi) (hb:PB X scope xs tg Bd) (ht:∀C s₂ H₂ ex,PCi (Vz X scope xs C ex s₂ H₂) ifs tt) (he:∀C s₂ H₂ ex,PE (Vz X scope xs C ex s₂ H₂) elt te) (hvs:∀x H vs,Bd x H vs->vs.length=xs.length) (hc:X.calm=true)
  (hsw:swapsWith (.ListComp elt [⟨tg,iter,ifs,0⟩] scope pos) (some (.Name y py)) spos.line X.env=pure true:=by rfl) (hy:X.env.scope.names.lookup y=some .local:=by rfl)
  (hclos:closureFor scope X.env=pure (QA scope X.env):=by rfl) (hchk:JZ X.N X.env.scope scope xs=true:=by rfl) (hs:∀x,foldedSetIterable iter X.env x=pure x:=by exact fun _=>rfl) :
  PS X (.Assign [.Name y py] (.ListComp elt [⟨tg,iter,ifs,0⟩] scope pos) spos) (Qk i wi Bd tt te):=by
 intro pins s σ H D0 I h
 have ck:=Vh hchk
 obtain⟨x,hx⟩:=ck.ex
 have sc:=ck.scs x hx
 rw[exec_Assign_Name_used _ _ _ _ hsw]
 refine wpAny_bind (wpAny_standAt (wpAny_bind ?_))
 show wpAny _ X.A (do let _ <- comprehension (.ListComp elt [⟨tg,iter,ifs,0⟩] scope pos) scope X.env _ (newList []) false (eval iter X.env) (some (assign (.Name y py) X.env))) _ _ s
 refine wpAny_bind (wpAny_mono (wpAny_comprehension_free (use:=some (assign (.Name y py) X.env)) (Q:=fun _ s'=>SP X pins D0 .next s') rfl hs hclos sc.kind sc.locs
  (thn (hit pins s σ H _ I h) fun xv s₁ h₁=>thn h₁ fun itv s₂ h₂=>?_)) (fun _ s' hq=>wpAny_pure (wpAny_pure hq)) fun _ _ e=>e)
 obtain⟨it,fp,tn,J,H2,e,I2,T,st2,f2,q⟩:=h₂
 subst e
 refine Q9 (RR:=fun acc C=>compPost (model X.prog X.w) X.A X.xe (some (assign (.Name y py) X.env)) (fun _ s'=>SP X pins D0 .next s') acc C) I2 ck hx hN hc T st2 f2 q hb ht he hvs ?_
 intro D C s' H' m' hC I' hn hC0 hq
 show wpAny _ X.A (assign (.Name y py) X.env (.ref D)) _ _ _
 have cellC:∀y c,X.env.cells.lookup y=some c->c≠C:=fun y c e z=>by
  obtain⟨v,o,ho,hd⟩:=I2.cell y c e
  exact absurd (Heap.lt_size ho) (ZmW.mpr (by rw[z];exact hC))
 have locC:C≠X.env.locals:=ZmQ (ZlX I2.lt hC)
 refine wpAny_assign_Name (Ue (i:=i) (v:=.ref D) I' hN hi (.inl hy) rfl (fun s'' I'' ⟨a,hsa,ha⟩=>?_) (.inr hy))
 have hCa:C≠a:=by
  rcases ha with z|z
  ·rw[z];exact locC
  ·exact(cellC _ _ z).symm
 refine⟨m',hn.sameBut hsa hCa,fun h'' hs''=>⟨σ.set i (some (.ref D)),H', ?_,hq⟩⟩
 refine I''.turned (t':=s''.toks) (it:=C) (fun b o hb e=>(hs''.2 b hb).trans e) hC0 locC (.inr (Zml I2.sz hC)) cellC fun p hp z=>?_
 exact absurd (Heap.lt_size (I2.pin p hp).1) (ZmW.mpr (by rw[z];exact hC))
end
noncomputable def Zed {α β:Type} (f:α->Rr (Option β)):List α->Rr (List β)
 |[]=>.ok []
 |x::xs=>(f x).bind fun o=>(Zed f xs).bind fun ys=>.ok (o.toList++ys)
def DB (K:W.Frag) (Bd:TB) (k:Nat) (hb:PV->Rr (List PV)):Prop:=(∀x e,hb x≠.exc e)/\∀(H:Hp) (S:Addr->Prop) (x:PV) (v:V) (xs:List PV),Rep K H S x v->hb x=.ok xs->xs.length=k/\∃vs,Bd v H vs/\Reps K H S xs vs
theorem ZhQ {K:W.Frag}:DB K (tB2 K) 2 (asT 2):=by
 refine⟨fun x e h=>?_,fun H S x v xs r h=>?_⟩
 ·unfold asT at h
  split at h
  ·split at h<;>cases h
  ·cases h
 ·unfold asT at h
  split at h
  ·rename_i ys
   split at h
   ·rename_i hl
    cases h
    obtain⟨a,vs,rfl,hq,hr⟩:=r
    refine⟨hl,vs, ?_,hr⟩
    match xs,vs,hl,hr,hq with
    |[p,q],vs,_,hr,hq =>
     obtain⟨u,w,rfl,_,_⟩:=ZfC hr
     exact⟨a,u,w,rfl,hq.sqT,rfl⟩
   ·cases h
  ·cases h
section
variable {K:W.Frag}{B:Addr->Prop}{EX:PX->Hp->Prop}{H0 H H':Hp}{σ:St}{Γ Γ' Γ1 Γ2:List Md}{ρ:List PV}{F:Nat->List Addr}{R:List Addr}{k:Nat}{x:PV}{v:V}{te:TE}{tt:TT}{f fe:List PV->Rr PV}{c:List PV->Rr Bool}{Bd:TB}{hb:PV->Rr (List PV)}
theorem Zee:DT K EX Γ Γ Zhz (fun _=>.ok true):=fun B H0 H σ ρ F R Q A d=>d H F (Z6.refl H) (fun _ _ h=>h) A
theorem Ag.pushN:∀{xs:List PV}{vs:List V}{σ:St}{Γ:List Md}{ρ:List PV},Reps K H (NO B F R) xs vs->Ag K B H0 H σ Γ ρ F R->Ag K B H0 H (σ++vs.map some) (Γ++List.replicate xs.length .S) (ρ++xs) F R
 |[],vs,σ,Γ,ρ,h,A=>by
  have h:vs=[]:=h
  subst h
  simpa using A
 |x::xs,vs,σ,Γ,ρ,h,A=>by
  obtain⟨v,r,rfl,h1,h2⟩:=h
  have:=Ag.pushN (xs:=xs) (vs:=r) h2 (A.push h1)
  simpa[Zmq] using this
theorem Ag.popN {n:Nat}{τ:St}{xs:List PV} (A:Ag K B H0 H (σ++τ) (Γ++List.replicate n .S) (ρ++xs) F R) (l1:σ.length=Γ.length) (l2:ρ.length=Γ.length):Ag K B H0 H σ Γ ρ F R:=by
 refine⟨A.same,A.own,A.young,A.youngR,A.live,A.liveR,A.disj,A.disjR,l1,l2,fun i=>?_⟩
 have:=A.slot i
 by_cases h1:i<Γ.length
 ·rw[ZlS,ZlS,ZlV h1,ZlV (by rw[l2];exact h1),ZlV (by rw[l1];exact h1),<- ZlS,<- ZlS] at this
  exact this
 ·rw[ZlS,Zmc (by omega)]
  by_cases h2:i<Γ.length+n
  ·rw[ZlS,ZlZ (by omega),Zm7,if_pos (by omega)] at this
   simp only[Zne] at this
   exact this.1
  ·exact A.outF (by simp;omega)
theorem ZaI {wi:TI}{fi:List PV->Rr (List PV)} (hi:DIc K EX Γ Γ1 wi fi) (hB:DB K Bd k hb) (ht:DT K EX (Γ1++List.replicate k .S) (Γ1++List.replicate k .S) tt c) (he:DE K EX (Γ1++List.replicate k .S) (Γ1++List.replicate k .S) .F te fe) :
  DE K EX Γ Γ1 .F (Zal wi Bd tt te) (fun ρ=>(fi ρ).bind fun xs=>(lenM xs).bind fun _=>(Zed (fun x=>(hb x).bind fun as=>(c (ρ++as)).bind fun b=>if b=true then (fe (ρ++as)).bind fun y=>.ok (some y) else .ok none) xs).bind fun ys=>.ok (.lst ys)):=fun B H0 H σ ρ F R Q A d=>by
 refine hi B H0 H σ ρ F R _ A (d.bind.imp (fun xs _ d J H1 F1 s1 f1 A1 it=>?_) fun e q=>q)
 obtain⟨hlen,d⟩:=Dn.lenM d.bind
 generalize hgx:(fun x=>(hb x).bind fun as=>(c (ρ++as)).bind fun b=>if b=true then (fe (ρ++as)).bind fun y=>Rr.ok (some y) else .ok none)=gx at d
 have l1:=A1.lenS
 have l2:=A1.lenR
 refine⟨fun i m ys H2=>∃zs G F2,m=xs.length-i/\i<=xs.length/\ys.length<=i/\Z6 H1 H2/\Trees K H2 zs ys G/\(∀a∈G,a ∉ R/\(H1 a=none\/∃j,a∈F1 j))/\(∀i,∀a∈F2 i,a∈F1 i)/\Ag K B H0 H2 σ Γ1 ρ F2 (G++R) /\
  Dn ((Zed gx (xs.drop i)).bind fun ys'=>.ok (.lst (zs++ys'))) (fun x=>∀v H',Z6 H H'->Res K B H0 H σ Γ1 ρ F R .F x v H'->Q v H') (fun e=>∀H',Z6 H0 H'->EX e H'),
  ⟨xs.length,[],[],F1,by simp,Zm9 _,ZlY _,Z6.refl _,⟨rfl,rfl⟩,by simp,fun _ _ h=>h,A1,by simpa using d⟩, ?_⟩
 rintro i m ys H2 ⟨zs,G,F2,rfl,hi',hl,s2,tr,o2,f2,A2,dn⟩
 refine⟨VU (by omega), ?_⟩
 have itp:=it H2 F2 s2 f2 i
 cases hx:xs[i]? with
 |none =>
  refine .inl ⟨itp.2 hx,fun p hp=>?_⟩
  have hd:xs.drop i=[]:=Zm3 (Zmz.mp hx)
  rw[hd] at dn
  have dn':∀v H',Z6 H H'->Res K B H0 H σ Γ1 ρ F R .F (.lst (zs++[])) v H'->Q v H':=dn
  rw[ZmF] at dn'
  exact dn' _ _ ((s1.trans s2).trans (Z6.new hp)) (Res.newF (s1.trans s2) (fun i a h=>f1 i a (f2 i a h)) tr (fun a ha=>⟨(o2 a ha).1,(o2 a ha).2.elim (fun z=>.inl (s1.free z)) fun⟨j,z⟩=>.inr ⟨j,f1 j a z⟩⟩) A2 hp)
 |some x =>
  have hlt:i<xs.length:=(Zms.mp hx).1
  obtain⟨go,yl⟩:=itp.1 x hx
  have hdx:xs.drop i=x::xs.drop (i+1):=by
   rw[Zm0 hlt]
   rw[ZlU hlt] at hx;cases hx;rfl
  rw[hdx] at dn
  simp only[Zed,Rr.assoc] at dn
  rw[<- hgx] at dn
  simp only[Rr.assoc] at dn
  rw[hgx] at dn
  refine .inr ⟨go,fun ys' H'=>∃zs G F2,ys'.length<=i+1/\Z6 H1 H'/\Trees K H' zs ys' G/\(∀a∈G,a ∉ R/\(H1 a=none\/∃j,a∈F1 j))/\(∀i,∀a∈F2 i,a∈F1 i)/\Ag K B H0 H' σ Γ1 ρ F2 (G++R) /\
   Dn ((Zed gx (xs.drop (i+1))).bind fun ys'=>.ok (.lst (zs++ys'))) (fun x=>∀v H',Z6 H H'->Res K B H0 H σ Γ1 ρ F R .F x v H'->Q v H') (fun e=>∀H',Z6 H0 H'->EX e H'),
   fun ys' H' ⟨zs,G,F2,a1,a2,a3,a4,a5,a6,a7⟩=>⟨xs.length-(i+1),by omega,zs,G,F2,rfl,hlt,a1,a2,a3,a4,a5,a6,a7⟩,fun v H3 y=>?_⟩
  obtain⟨s3,rx⟩:=yl v H3 y
  have rx':Rep K H3 (NO B F2 (G++R)) x v:=Rep.mono (fun a us s r=>⟨r,s.1.1,fun z=>by
   rcases Zma.mp z with z|z
   ·rcases (o2 a z).2 with q|⟨j,q⟩
    ·exact s.2.1 q
    ·exact s.2.2 j q
   ·exact s.1.2.1 z,s.1.2.2⟩) (fun a us r=>r) rx
  cases hbx:hb x with
  |exc e=>exact absurd hbx (hB.1 x e)
  |bad=>rw[hbx] at dn;exact dn.elim
  |ok as =>
   rw[hbx] at dn
   simp only[Rr.bind_ok] at dn
   obtain⟨hk,vs,bd,ra⟩:=hB.2 H3 _ x v as rx' hbx
   refine⟨vs,bd, ?_⟩
   have A3:=Ag.pushN ra (A2.grow s3)
   rw[hk] at A3
   refine ht B H0 H3 _ _ F2 (G++R) _ A3 (dn.bind.imp (fun b _ dn H4 F4 s4 f4 A4=>?_) fun e q=>q)
   cases b with
   |false =>
    rw[if_neg Bool.false_ne_true] at dn ⊢
    simp only[Rr.bind_ok,Option.toList] at dn
    refine⟨zs,G,F4,by omega,(s2.trans s3).trans s4,(tr.same s3).same s4,o2,fun i a h=>f2 i a (f4 i a h),A4.popN l1 l2, ?_⟩
    simp only[Rr.assoc,Rr.bind_ok,Znu] at dn
    exact dn
   |true =>
    rw[if_pos rfl] at dn ⊢
    simp only[Rr.assoc] at dn
    refine he B H0 H4 _ _ F4 (G++R) _ A4 (dn.bind.imp (fun z _ dn w H5 s5 r5=>?_) fun e q=>q)
    obtain⟨F5,f5,G5,t5,o5,A5⟩:=r5
    refine⟨zs++[z],G++G5,F5,by simp;omega,((s2.trans s3).trans s4).trans s5,Trees.append (((tr.same s3).same s4).same s5) (Trees.one t5) (fun a ha z=>(o5 a z).1 (Zmb _ ha)),fun a ha=>?_,fun i a h=>f2 i a (f4 i a (f5 i a h)),(A5.popN l1 l2).less fun a ha=>?_, ?_⟩
    ·rcases Zma.mp ha with z|z
     ·exact o2 a z
     ·refine⟨fun q=>(o5 a z).1 (ZlT _ q), ?_⟩
      rcases (o5 a z).2 with q|⟨j,q⟩
      ·exact .inl (((s2.trans s3).trans s4).free q)
      ·exact .inr ⟨j,f2 j a (f4 j a q)⟩
    ·simp only[Zma] at ha ⊢
     rcases ha with (z|z)|z
     ·exact .inr (.inl z)
     ·exact .inl z
     ·exact .inr (.inr z)
    ·simp only[Rr.assoc,Rr.bind_ok,Option.toList,Zno,Zna] at dn ⊢
     exact dn
theorem QY {EX:PX->Hp->Prop}{kd:Kd}{i:Nat}{wi:TI} (he:DE K EX Γ Γ' .F (Zal wi Bd tt te) f) (hi:i<Γ'.length):DS K EX Γ ⟨Γ'.set i .O,Γ1,Γ2,kd⟩ (Qk i wi Bd tt te) (fun ρ=>(f ρ).thenS fun x=>.next (ρ.set i x)):=ZU he hi
end
theorem hv2 {K:W.Frag}{n m:Str}:∀(x:V) (H:Hp) (vs:List V),tB2 K x H vs->vs.length=[n,m].length:=fun _ _ _ ⟨_,_,_,_,_,h⟩=>congrArg List.length h
theorem Za0 {X:Cx}{K:W.Frag}{scope:Scope}{x y:Str}{px py tp:Pos}{k:Nat} (hNd:X.N.Nodup) (hc:X.calm=true) (hchk:JZ X.N X.env.scope scope [x,y]=true:=by rfl) (e:X.K=K:=by rfl):PB X scope [x,y] (.Tuple [.Name x px,.Name y py] k tp) (tB2 K):=by subst e;exact ZeA hNd hc hchk
section
end
theorem Zhu {a b:PV}:asT 2 (.tup [a,b])=.ok [a,b]:=rfl
noncomputable def ZhV:Nat:=4000000
def ZgG (i j:Int):Prop:=i.natAbs<2^ZhV/\j.natAbs<2^ZhV
noncomputable instance (i j:Int):Decidable (ZgG i j):=by unfold ZgG;infer_instance
end L2
namespace Att
open PySem PySem.W PySem.Calls PyProof.Rows
end Att
namespace L2
open PySem PySem.Spec PyProof.Rows
section
end
noncomputable def okE (x:PV):Bool:=x.noX&&x.dat.canLay0&&decide (x.dat.depth<=60)
noncomputable def Zha (K:W.Frag) (g:Bool->Bool):R2:=fun x y H Q=>∃p qs a vs,Rep K H (fun _=>True) p x/\y=.ref a/\(SqL K H a vs\/SqT K H a vs)/\Reps K H (fun _=>True) qs vs/\okE p=true/\(qs.all okE)=true/\Q (.bl (g (qs.any fun q=>PyData.eqv q.dat p.dat))) H
open Classical in
noncomputable def Zbi (h:Heap) (dx:PyData) (y:Value):Bool:=if hy:∃d as,Reads h y d as/\d.canLay0=true/\d.depth<=60 then PyData.eqv hy.choose dx else false
section
variable {X:Cx}{K:W.Frag}
theorem Q6 {H:Hp}{pins:List (Addr×Obj)}{σ:St}{s:Shared}{S:Addr->Prop} (I:Inv X pins σ H s) (dx:PyData):∀{qs:List PV}{vs:List V}{us:List Value},Reps X.K H S qs vs->ZZ vs us->(qs.all okE)=true ->
  (us.any (Zbi s.heap dx)=qs.any fun q=>PyData.eqv q.dat dx)/\∀y∈us,∃d as,Reads s.heap y d as/\d.canLay0=true/\d.depth<=60
 |[],_,us,h,r,_=>by
  rw[h] at r;cases r
  exact⟨rfl,by simp⟩
 |q::qs,_,us,h,r,hk=>by
  obtain⟨v,vs,rfl,h1,h2⟩:=h
  simp only[List.all_cons,Bool.and_eq_true] at hk
  cases r with
  |cons r1 r2 =>
   rename_i u us
   obtain⟨e1,e2⟩:=Q6 I dx h2 r2 hk.2
   have h3:=hk.1
   simp only[okE,Bool.and_eq_true,decide_eq_true_eq] at h3
   obtain⟨as,ra⟩:=h1.reads I h3.1.1 r1
   have hx:∃d as,Reads s.heap u d as/\d.canLay0=true/\d.depth<=60:=⟨_,_,ra,h3.1.2,h3.2⟩
   refine⟨?_,fun y hy=>?_⟩
   ·have:Zbi s.heap dx u=PyData.eqv q.dat dx:=by
     unfold Zbi
     rw[dif_pos hx]
     obtain⟨as',ra',c1,c2⟩:=hx.choose_spec
     rw[SeqAt.Reads.unique _ _ _ _ _ c1 ra' ra]
    rw[List.any_cons,List.any_cons,e1,this]
   ·rcases Zmf.mp hy with rfl|hy
    ·exact hx
    ·exact e2 y hy
theorem Zgs {H:Hp}{pins:List (Addr×Obj)}{σ:St}{s:Shared}{g:Bool->Bool}{x y:V}{v u:Value}{Q:VK} (I:Inv X pins σ H s) (hu:X.A.units+64<cLine) (rx:Jq x v) (ry:Jq y u) (h:Zha X.K g x y H Q) :
  ∃a items,u=.ref a/\(s.heap.IsList a items\/s.heap.IsTuple a items)/\∃e:Value->Bool,(∀y,y∈items->SeqAt.EqAt X.A.in1 s y v (e y))/\Q (.bl (g (items.any e))) H:=by
 obtain⟨p,qs,a,vs,h1,rfl,hq,hr,h3,h4,q⟩:=h
 cases ry
 simp only[okE,Bool.and_eq_true,decide_eq_true_eq] at h3
 obtain⟨as,ra⟩:=h1.reads I h3.1.1 rx
 have fin:∀its:List Value,ZZ vs its->(∀y,y∈its.toArray->SeqAt.EqAt X.A.in1 s y v (Zbi s.heap p.dat y))/\Q (.bl (g (its.toArray.any (Zbi s.heap p.dat)))) H:=fun its rv=>by
  obtain⟨e1,e2⟩:=Q6 I p.dat hr rv h4
  refine⟨fun y hy=>?_, ?_⟩
  ·have hx:=e2 y (by simpa using hy)
   unfold Zbi
   rw[dif_pos hx]
   obtain⟨as',ra',c1,c2⟩:=hx.choose_spec
   refine SeqAt.eqAt_reads _ _ _ _ _ _ _ _ ra' ra c1 h3.1.2 ?_
   have:=Nat.min_le_left hx.choose.depth p.dat.depth
   have hin:X.A.in1.units<=X.A.units+1:=by simp[Around.in1]
   omega
  ·rw[List.any_toArray,e1];exact q
 rcases hq with hq|hq
 ·obtain⟨its,rv,pl,hz⟩:=I.list hq
  obtain⟨f1,f2⟩:=fin its rv
  exact⟨a,its.toArray,rfl,.inl pl.isList,_,f1,f2⟩
 ·obtain⟨its,rv,pl,hz⟩:=I.tuple hq
  obtain⟨f1,f2⟩:=fin its rv
  exact⟨a,its.toArray,rfl,.inr pl,_,f1,f2⟩
theorem ZfZ (hu:X.A.units+64<cLine) (e:X.K=K:=by rfl):OpR X (compareOp .In) (Zha K id):=by
 subst e
 intro pins s σ H x y v u Q I rx ry h
 obtain⟨a,items,rfl,hl,e,he,q⟩:=Zgs I hu rx ry h
 rcases hl with hl|hl
 ·exact SeqAt.in_listAt e hl he ⟨.bl _,H,I,rfl,q⟩
 ·exact SeqAt.in_tupleAt e hl he ⟨.bl _,H,I,rfl,q⟩
end
noncomputable def ZeH (g:Bool->Bool) (x y:PV):Rr PV:=match y with
 |.lst ys=>if (okE x&&ys.all okE)=true then .ok (.bl (g (ys.any fun q=>PyData.eqv q.dat x.dat))) else .bad
 |.tup ys=>if (okE x&&ys.all okE)=true then .ok (.bl (g (ys.any fun q=>PyData.eqv q.dat x.dat))) else .bad
 |_=>.bad
section
variable {K:W.Frag}{EX:PX->Hp->Prop}{Γ Γ1 Γ2:List Md}{tb tc:TE}{fb fc:List PV->Rr PV}
theorem Zg3 {g:Bool->Bool} (ha:DE K EX Γ Γ1 .A tb fb) (hb:DE K EX Γ1 Γ2 .A tc fc):DE K EX Γ Γ2 .P (tOp (Zha K g) tb tc) (fun ρ=>(fb ρ).bind fun x=>(fc ρ).bind fun y=>ZeH g x y):=by
 refine ZdE (fun {H x y v w Q} rx ry ⟨z,e,q⟩=>?_) (fun x y z h=>?_) (fun x y e h=>?_) ha hb
 ·unfold ZeH at e
  split at e
  ·split at e
   ·rename_i ys hk
    cases e
    rw[Bool.and_eq_true] at hk
    obtain⟨a,vs,rfl,hn,hr⟩:=ry
    exact⟨x,_,a,vs,rx,rfl,.inl (JD (S:=fun _=>True) hn),hr,hk.1,hk.2,q rfl _ rfl⟩
   ·cases e
  ·split at e
   ·rename_i ys hk
    cases e
    rw[Bool.and_eq_true] at hk
    obtain⟨a,vs,rfl,hn,hr⟩:=ry
    exact⟨x,_,a,vs,rx,rfl,.inr hn.sqT,hr,hk.1,hk.2,q rfl _ rfl⟩
   ·cases e
  ·cases e
 ·unfold ZeH at h
  split at h
  ·split at h<;>cases h;rfl
  ·split at h<;>cases h;rfl
  ·cases h
 ·unfold ZeH at h
  split at h
  ·split at h<;>cases h
  ·split at h<;>cases h
  ·cases h
end
theorem Q5 {ns:List Int}{f:PV->Rr (Option PV)}{g:Nat->PV} (h:∀i,i<ns.length->f (.tup [.int i,.int (ns.getD i 0)])=.ok (some (g i))):Zed f (VN (ns.map PV.int))=.ok ((List.range ns.length).map g):=by
 have e:VN (ns.map PV.int)=(List.range ns.length).map fun i=>PV.tup [.int (i:Nat),.int (ns.getD i 0)]:=by
  apply ZmX
  intro i
  unfold VN
  rw[Zng,Zmm,Zmm]
  by_cases hi:i<ns.length
  ·rw[ZlU hi,Zmr hi]
   simp[ZlS,ZlU hi]
  ·rw[Zmc (by omega),Zmc (by simpa using hi)];rfl
 rw[e]
 have:∀l:List Nat,(∀i∈l,i<ns.length)->Zed f (l.map fun i=>PV.tup [.int (i:Nat),.int (ns.getD i 0)])=.ok (l.map g):=by
  intro l
  induction l with
  |nil=>intro _;rfl
  |cons a l ih =>
   intro hl
   simp only[Zmd,Zed,h a (hl a (by simp)),Rr.bind_ok,ih fun i hi=>hl i (by simp[hi]),Option.toList,Zna]
 exact this _ fun i hi=>Zmp.mp hi
section
end
theorem ZfN {x y z:PV}{xs:List PV}:pIx (.tup (x::y::z::xs)) (.int 2)=.ok z:=by
 have:atI (x::y::z::xs) 2=some z:=by unfold atI;rw[ZaB (by omega) (by simp only[ZmO];omega)];rfl
 simp only[pIx,this]
section
variable {K:W.Frag}{EX:PX->Hp->Prop}{Γ Γ1 Γ3:List Md}{k:Kd}{H:Hp}
theorem Trees.dropLastP:∀{xs:List PV}{vs:List V}{G:List Addr},Trees K H xs vs G->∃G',(∀a∈G',a∈G)/\Trees K H xs.dropLast vs.dropLast G'
 |[],_,_,h=>⟨[],by simp,by rw[h.1];exact⟨rfl,rfl⟩⟩
 |[x],_,_,h=>by
  obtain⟨v,r,G1,G2,rfl,h1,h2,h3,rfl⟩:=h
  have:=h2.1
  subst this
  exact⟨[],by simp,rfl,rfl⟩
 |x::y::xs,_,_,h=>by
  obtain⟨v,r,G1,G2,rfl,h1,h2,h3,rfl⟩:=h
  obtain⟨G',h4,h5⟩:=Trees.dropLastP h2
  have hr:r≠[]:=by
   obtain⟨v',r',_,_,rfl,_⟩:=h2
   simp
  refine⟨G1++G',fun a ha=>?_,v,r.dropLast,G1,G',by rw[List.dropLast_cons_of_ne_nil hr],h1,h5,fun a ha z=>h3 a ha (h4 a z),rfl⟩
  rcases Zma.mp ha with z|z
  ·simp[z]
  ·simp[h4 a z]
noncomputable def pPop (x:PV):Rr PV:=match x with
 |.lst xs=>if xs.length=0 then .bad else .ok (.lst xs.dropLast)
 |_=>.bad
theorem Dn.pPop {x:PV}{ok:PV->Prop}{ex:PX->Prop} (d:Dn (pPop x) ok ex):∃xs,x=.lst xs/\0<xs.length/\ok (.lst xs.dropLast):=by
 unfold L2.pPop at d
 split at d
 ·rename_i xs
  by_cases h:xs.length=0
  ·rw[if_pos h] at d;exact d.elim
  ·rw[if_neg h] at d;exact⟨xs,rfl,by omega,d⟩
 ·exact d.elim
theorem ZeZ {i:Nat} (hm:Γ[i]?=some .O) :
  DS K EX Γ ⟨Γ,Γ1,Γ3,k⟩ (Zb1 (Zh5 K "list" ZhA (Zbl i))) (fun ρ=>(pPop (gv i ρ)).thenS fun z=>.next (ρ.set i z)):=fun B H0 H σ ρ F D A d=>by
 obtain⟨v,h1,h2⟩:=A.getO hm
 refine⟨v,h1, ?_⟩
 obtain⟨xs,e1,hp,d⟩:=Dn.pPop d.thenS
 rw[show ρ.getD i .non=.lst xs from e1] at h2
 obtain⟨a,vs,G,rfl,hH,ht,hn,hF⟩:=h2
 have hl:=ht.length
 have hg:vs[vs.length-1]?=some (vs[vs.length-1]'(by omega)):=ZlU (by omega)
 refine⟨.inl ⟨rfl,_,SqL.of hH⟩,a,vs,_,rfl,rfl,hH,hg, ?_⟩
 obtain⟨G',g1,g2⟩:=Trees.dropLastP ht
 have haF:a∈F i:=by rw[hF];simp
 have hsub:∀b∈a::G',b∈F i:=fun b hb=>by
  rw[hF]
  rcases Zmf.mp hb with rfl|hb
  ·simp
  ·simp[g1 b hb]
 refine d σ _ (Uz F i (a::G')) (Uq (fun b u h=>h) (fun j b hb=>hb) haF fun b hb=>.inr ⟨i,hsub b hb⟩) (Ag.chg (G:=[]) A hm haF (fun b hb=>.inl (hsub b hb)) (by simp) ?_)
 exact⟨_,h1,a,_,G',rfl,ZO,g2.put hH (fun z=>hn (g1 a z)),fun z=>hn (g1 a z),rfl⟩
theorem ZbU {ns:List Int} (h:0<ns.length):pPop (.lst (ns.map PV.int))=.ok (.lst (ns.dropLast.map PV.int)):=by
 unfold pPop
 simp only[Zmh]
 rw[if_neg (by omega),List.map_dropLast]
end
noncomputable def Za2 (p q:Int->Int->Bool) (x y:PV) (r:Rr PV):Rr PV:=match x,y with
 |.int i,.int j=>if p i j=true then r.bind fun z=>oI (fun _ _=>true) (fun i j=>.bl (q i j)) (.int j) z else .ok (.bl false)
 |_,_=>.bad
theorem ZbZ {p q:Int->Int->Bool}{i j k:Int}:Za2 p q (.int i) (.int j) (.ok (.int k))=.ok (.bl (p i j&&q j k)):=by
 simp only[Za2,Rr.bind_ok,oI,if_true]
 cases p i j<;>simp
section
variable {K:W.Frag}{B:Addr->Prop}{EX:PX->Hp->Prop}{H0 H H':Hp}{σ:St}{Γ Γ1 Γ2:List Md}{ρ:List PV}{F F':Nat->List Addr}{R:List Addr}{k:Nat}{x:PV}{v:V}{ta tb tc:TE}{fa fb fc:List PV->Rr PV}{hb:PV->Rr (List PV)}
theorem ZaJ {p q:Int->Int->Bool} (ha:DE K EX Γ Γ1 .A ta fa) (hb:DE K EX Γ1 Γ2 .A tb fb) (hc:DE K EX Γ2 Γ2 .A tc fc) :
  DE K EX Γ Γ2 .P (ZdS (rI0 fun i j=>.bl (p i j)) (rI0 fun i j=>.bl (q i j)) ta tb tc) (fun ρ=>(fa ρ).bind fun x=>(fb ρ).bind fun y=>Za2 p q x y (fc ρ)):=fun B H0 H σ ρ F R Q A d=>by
 refine two (Q:=fun v w H2=>(rI0 fun i j=>.bl (p i j)) v w H2 fun z H3=>∃k,z=.bl k/\(if k=true then tc σ H3 fun w' H4=>(rI0 fun i j=>.bl (q i j)) w w' H4 Q else Q (.bl false) H3)) ha hb A d.bind2 fun x y v w H' F' d s hF p1 p2 A'=>?_
 cases x<;>cases y<;>first|exact d.elim|skip
 rename_i i j
 cases p1;cases p2
 refine⟨i,j,rfl,rfl,_,rfl, ?_⟩
 simp only[Za2] at d
 by_cases h:p i j=true
 ·rw[if_pos h] at d ⊢
  refine hc B H0 H' σ ρ F' R _ A' (d.bind.imp (fun z _ d u H3 s3 r3=>?_) fun e q=>q)
  obtain⟨F3,f3,p3,A3⟩:=r3
  cases z<;>first|exact d.elim|skip
  cases p3
  exact⟨j,_,rfl,rfl,d _ H3 (s.trans s3) ⟨F3,fun i a h=>hF i a (f3 i a h),rfl,rfl,A3⟩⟩
 ·rw[if_neg h] at d ⊢
  exact d _ H' s ⟨F',hF,rfl,rfl,A'⟩
end
structure Dat (n:Nat) (x:PV):Prop where
 nx:x.noX=true
 can:x.dat.canLay0=true
 dep:x.dat.depth<=n
theorem Dat.ok {n:Nat}{x:PV} (h:Dat n x) (hn:n<=64:=by decide):okD x=true:=by
 unfold okD
 rw[h.nx,h.can,decide_eq_true (Zml h.dep hn)];rfl
theorem Uv (i:Int):Dat 0 (.int i):=⟨rfl,by simp[PV.dat,PyData.canLay0],by simp[PV.dat,PyData.depth]⟩
theorem UZ {n:Nat}:∀{xs:List PV},(∀x∈xs,Dat n x)->PV.noXs xs=true/\PyData.canLayAll0 (PV.dats xs)=true/\PyData.depthAll (PV.dats xs)<=n
 |[],_=>⟨rfl,rfl,Zm9 _⟩
 |x::xs,h=>by
  obtain⟨h1,h2,h3⟩:=UZ (xs:=xs) fun y hy=>h y (by simp[hy])
  have hx:=h x (by simp)
  refine⟨by simp[PV.noXs,hx.nx,h1],by simp[PV.dats,PyData.canLayAll0,hx.can,h2], ?_⟩
  simp only[PV.dats,PyData.depthAll]
  exact Nat.max_le.mpr ⟨hx.dep,h3⟩
theorem Zfi {n:Nat}{xs:List PV} (h:∀x∈xs,Dat n x):Dat (n+1) (.lst xs):=by
 obtain⟨h1,h2,h3⟩:=UZ h
 exact⟨by simp[PV.noX,h1],by simp[PV.dat,PyData.canLay0,h2],by simp only[PV.dat,PyData.depth];omega⟩
theorem Zfh {n:Nat}{xs:List PV} (h:∀x∈xs,Dat n x):Dat (n+1) (.tup xs):=by
 obtain⟨h1,h2,h3⟩:=UZ h
 exact⟨by simp[PV.noX,h1],by simp[PV.dat,PyData.canLay0,h2],by simp only[PV.dat,PyData.depth];omega⟩
theorem Dat.up {m n:Nat}{x:PV} (h:Dat m x) (hn:m<=n):Dat n x:=⟨h.nx,h.can,Zml h.dep hn⟩
theorem ZdF (ns:List Int):Dat 1 (.lst (ns.map PV.int)):=Zfi fun x hx=>by
 obtain⟨i,_,rfl⟩:=Zm5.mp hx
 exact Uv i
theorem Vn {ns:List Int}{y:Int} (h:ns≠[]):pSet (.lst (ns.map PV.int)) (.int (-1)) (.int y)=.ok (.lst ((ns.set (ns.length-1) y).map PV.int)):=by
 have hl:0<ns.length:=ZmA.mpr h
 have:ixN ns.length (-1)=some (ns.length-1):=by
  unfold ixN
  rw[if_neg (by omega),if_pos (by omega)]
  congr 1;omega
 simp only[pSet,Zmh,this,List.map_set]
section
end
theorem us1 {α:Type}{us:List α} (h:us.length=1):∃a,us=[a]:=match us,h with | [a],_=>⟨a,rfl⟩
theorem us2 {α:Type}{us:List α} (h:us.length=2):∃a b,us=[a,b]:=match us,h with | [a,b],_=>⟨a,b,rfl⟩
theorem us5 {α:Type}{us:List α} (h:us.length=5):∃a b c d e,us=[a,b,c,d,e]:=match us,h with | [a,b,c,d,e],_=>⟨a,b,c,d,e,rfl⟩
section
end
theorem Dat.okE {n:Nat}{x:PV} (h:Dat n x) (hn:n<=60:=by decide):okE x=true:=by
 unfold L2.okE
 rw[h.nx,h.can,decide_eq_true (Zml h.dep hn)];rfl
theorem ZbX {g:Bool->Bool}{i:Int}{ns:List Int}:ZeH g (.int i) (.lst (ns.map PV.int))=.ok (.bl (g (decide (i∈ns)))):=by
 have hall:∀ns:List Int,(okE (.int i)&&(ns.map PV.int).all okE)=true:=fun ns=>by
  rw[(Uv i).okE,Bool.true_and,ZmN]
  intro x hx
  obtain⟨q,_,rfl⟩:=Zm5.mp hx
  exact(Uv q).okE
 simp only[ZeH]
 rw[if_pos (hall ns)]
 congr 3
 induction ns with
 |nil=>simp
 |cons q M ih =>
  rw[Zmd,List.any_cons,ih]
  simp only[PV.dat,PyData.eqv]
  by_cases c:q=i
  ·simp[c]
  ·have:¬i=q:=fun z=>c z.symm
   simp[c,this]
section
end
end L2
namespace L2
noncomputable def Zgv (p s:Int):Int:=p*s%(p+1)
noncomputable def ZhR (p s:Int):Int:=p*s/(p+1)
noncomputable def Zew (s:Int):Nat->Int
 |0=>s
 |k+1=>ZhR (k+1) (Zew s k)
noncomputable def Zgy (s:Int) (n:Nat):List Int:=(List.range n).map fun(k:Nat)=>Zgv (k+1) (Zew s k)
noncomputable def Zf0 (s:Int):Nat->Nat->Nat
 |0,k=>k
 |n+1,k=>if 0<Zew s k then Zf0 s n (k+1) else k
noncomputable def ZhW (s:Int):Nat:=Zf0 s s.toNat 0
noncomputable def ZgR (s:Int):List Int:=Zgy s (ZhW s)
noncomputable def J5 (ns:List Int):Nat->Nat
 |0=>0
 |k+1=>if ns.getD k 0=0 then J5 ns k else k+1
noncomputable def ZcS (ns:List Int):List Int:=ns.take (J5 ns ns.length)
theorem UG (ns:List Int):∀k,J5 ns k<=k
 |0=>ZlY _
 |k+1=>by
  unfold J5
  split
  ·exact Nat.le_succ_of_le (UG ns k)
  ·exact ZlY _
theorem V1 (ns:List Int):∀k,0<J5 ns k->ns.getD (J5 ns k-1) 0≠0
 |0,h=>absurd h (by simp[J5])
 |k+1,h=>by
  unfold J5 at h ⊢
  split
  ·rename_i c;rw[if_pos c] at h;exact V1 ns k h
  ·rename_i c;rw[Znl];exact c
theorem U3 (ns:List Int):∀k j,J5 ns k<=j->j<k->ns.getD j 0=0
 |0,j,_,h=>absurd h (by omega)
 |k+1,j,h1,h2=>by
  unfold J5 at h1
  by_cases c:ns.getD k 0=0
  ·rw[if_pos c] at h1
   by_cases e:j=k
   ·rw[e];exact c
   ·exact U3 ns k j h1 (by omega)
  ·rw[if_neg c] at h1;omega
theorem Zev:∀{ns:List Int},(∀x∈ns,0<=x)->0<=ns.sum
 |[],_=>by simp
 |n::ns,h=>by
  have h1:=h n (by simp)
  have h2:=Zev (ns:=ns) fun x hx=>h x (by simp[hx])
  simp only[Zmg];omega
theorem Zgg:∀{ns:List Int},(∀x∈ns,0<=x)->∀x∈ns,x<=ns.sum
 |[],_,x,hx=>by simp at hx
 |n::ns,h,x,hx=>by
  have h1:=h n (by simp)
  have h2:=Zev (ns:=ns) fun x hx=>h x (by simp[hx])
  simp only[Zmg]
  rcases Zmf.mp hx with rfl|hx
  ·omega
  ·have:=Zgg (ns:=ns) (fun x hx=>h x (by simp[hx])) x hx;omega
def ZcL (ns:List Int):Prop:=(∀x∈ns,0<=x)/\ns.length<=200/\ns.sum<=10000/\(ns=[]\/ns.getD (ns.length-1) 0≠0)
noncomputable instance (ns:List Int):Decidable (ZcL ns):=by unfold ZcL;infer_instance
def Zeo (ns:List Int):Prop:=ZcL ns/\ns=ZgR ns.sum
noncomputable instance (ns:List Int):Decidable (Zeo ns):=by unfold Zeo;infer_instance
noncomputable def s2 (ns:List Int) (r:Nat):Nat->Int
 |0=>0
 |i+1=>s2 ns r i+if i%2=r then ns.getD i 0 else 0
theorem Vv {ns:List Int}{i:Nat} (h:i<ns.length):ns.getD i 0∈ns:=by
 rw[ZlS,ZlU h];exact List.getElem_mem _
noncomputable def hs:Nat->Nat->Int->List Int
 |_,0,_=>[]
 |k,m+1,l=>Zgv (k+1) l::hs (k+1) m (ZhR (k+1) l)
noncomputable def s3 (ns:List Int) (r:Nat):Nat->Int
 |0=>0
 |i+1=>s3 ns r i+if i%3=r then ns.getD i 0 else 0
def Zj (ns:List Int):Prop:=(∀x∈ns,0<=x)/\ns.length<=100/\ns.sum<=100/\(ns=[]\/(ns.getD 0 0≠0/\ns.getD (ns.length-1) 0≠0))
noncomputable instance (ns:List Int):Decidable (Zj ns):=by unfold Zj;infer_instance
noncomputable def mrN (r:List Int) (i:Nat):List Int:=(List.range (max r.length i)).map fun(j:Nat)=>r.getD j 0+if j<i then 1 else 0
noncomputable def Zz:List Int->List Int
 |[]=>[]
 |a::r=>mrN r a.toNat
@[simp] theorem V7 (r:List Int) (i:Nat):(mrN r i).length=max r.length i:=by simp[mrN]
theorem J3 {r:List Int}{i j:Nat} (h:j<max r.length i):(mrN r i).getD j 0=r.getD j 0+if j<i then 1 else 0:=by
 simp[mrN,ZlS,Zmr h]
theorem ZM {ns:List Int}{i:Nat} (h:ns.length<=i):ns.getD i 0=0:=by
 rw[ZlS,Zmc h];rfl
theorem Zdt (r:List Int):mrN r 0=r:=by
 apply ZmX
 intro j
 unfold mrN
 rw[Zmm]
 by_cases h:j<r.length
 ·rw[Zmr (by omega),Option.map_some,ZlS,ZlU h]
  simp
 ·rw[Zmc (by simp;omega),Zmc (by omega)];rfl
theorem Zb5 {l m:List Int}{i:Nat}{v:Int} (hl:l.length=m.length) (hi:i<l.length) (h1:m.getD i 0=v) (h2:∀j,j<l.length->j≠i->m.getD j 0=l.getD j 0):l.set i v=m:=by
 apply Znr
 ·simp[hl]
 ·intro j j1 j2
  rw[List.getElem_set]
  have e:∀(q:List Int) (z:j<q.length),q.getD j 0=q[j]:=fun q z=>by rw[ZlS,ZlU z];rfl
  by_cases q:i=j
  ·subst q
   rw[if_pos rfl,<- h1,e m j2]
  ·rw[if_neg q,<- e l (by simpa using j1),<- h2 j (by simpa using j1) (Ne.symm q),e m j2]
theorem Zba {r:List Int}{i:Nat} (h:i<r.length):(mrN r i).set i ((mrN r i).getD i 0+1)=mrN r (i+1):=by
 apply Zb5
 ·simp;omega
 ·simp;omega
 ·rw[J3 (by omega),J3 (by omega),if_pos (by omega),if_neg (by omega)];omega
 ·intro j hj hne
  simp at hj
  rw[J3 (by omega),J3 (by omega)]
  have:(j<i+1)=(j<i):=propext (by omega)
  simp only[this]
theorem QR {r:List Int}{i:Nat} (h:r.length<=i):(mrN r i++[0]).set i 1=mrN r (i+1):=by
 apply Zb5
 ·simp;omega
 ·simp;omega
 ·rw[J3 (by omega),if_pos (by omega),ZM h];omega
 ·intro j hj hne
  simp at hj
  have hl:(mrN r i).length=i:=by simp;omega
  rw[J3 (by omega),ZlS (l:=mrN r i++[0]),ZlV (by omega),<- ZlS,J3 (by omega)]
  have:(j<i+1)=(j<i):=propext (by omega)
  simp only[this]
theorem ZD (f g:Nat->Int):∀n,((List.range n).map fun i=>f i+g i).sum=((List.range n).map f).sum+((List.range n).map g).sum
 |0=>by simp
 |n+1=>by
  rw[Zmi]
  simp only[Zme,Zmj,Zmd,Zmn,Zmg,Zmy]
  rw[ZD f g n];omega
theorem Zx {f g:Nat->Int}:∀n,(∀i,i<n->f i<=g i)->((List.range n).map f).sum<=((List.range n).map g).sum
 |0,_=>by simp
 |n+1,h=>by
  rw[Zmi]
  simp only[Zme,Zmj,Zmd,Zmn,Zmg,Zmy]
  have:=Zx n (fun i hi=>h i (by omega))
  have:=h n (by omega)
  omega
theorem ZL (c:Int):∀n:Nat,((List.range n).map fun _=>c).sum=n*c
 |0=>by simp
 |n+1=>by
  rw[Zmi]
  simp only[Zme,Zmj,Zmd,Zmn,Zmg,Zmy]
  rw[ZL c n,show ((n+1:Nat):Int)=(n:Int)+1 by omega,ZmB];omega
theorem V9 (ns:List Int):ns=(List.range ns.length).map fun(i:Nat)=>ns.getD i 0:=by
 apply ZmX
 intro j
 rw[Zmm]
 by_cases h:j<ns.length
 ·rw[Zmr h,Option.map_some,ZlS,ZlU h];rfl
 ·rw[Zmc (by omega),Zmc (by simp;omega)];rfl
theorem JC (ns:List Int):∀k,((List.range (ns.length+k)).map fun(i:Nat)=>ns.getD i 0).sum=ns.sum
 |0=>by rw[Znc,<- V9]
 |k+1=>by
  rw[<- Nat.add_assoc,Zmi]
  simp only[Zme,Zmj,Zmd,Zmn,Zmg,Zmy]
  rw[JC ns k,ZM (by omega)];omega
theorem Zb3 (i:Nat):∀n,i<=n->((List.range n).map fun(j:Nat)=>if j<i then (1:Int) else 0).sum=i
 |0,h=>by simp;omega
 |n+1,h=>by
  rw[Zmi]
  simp only[Zme,Zmj,Zmd,Zmn,Zmg,Zmy]
  by_cases e:i=n+1
  ·subst e
   rw[if_pos (by omega)]
   have:((List.range n).map fun(j:Nat)=>if j<n+1 then (1:Int) else 0)=(List.range n).map fun _=>1:=ZmC fun j hj=>if_pos (by have:=Zmp.mp hj;omega)
   rw[this,ZL];omega
  ·rw[Zb3 i n (by omega),if_neg (by omega)];omega
theorem Zci (r:List Int) (i:Nat):(mrN r i).sum=r.sum+i:=by
 unfold mrN
 rw[ZD,Zb3 i _ (by omega)]
 have:=JC r (max r.length i-r.length)
 rw[show r.length+(max r.length i-r.length)=max r.length i by omega] at this
 rw[this]
theorem Zw {ns:List Int} (h:∀x∈ns,0<=x) (i:Nat):0<=ns.getD i 0:=by
 by_cases z:i<ns.length
 ·exact h _ (Vv z)
 ·rw[ZM (by omega)];omega
theorem sum_nn:∀{ns:List Int},(∀x∈ns,0<=x)->0<=ns.sum
 |[],_=>by simp
 |x::xs,h=>by
  have:=h x (by simp)
  have:=sum_nn (ns:=xs) (fun y hy=>h y (by simp[hy]))
  simp;omega
theorem Zck {ns:List Int} (h:Zj ns):Zj (Zz ns):=by
 cases ns with
 |nil=>exact h
 |cons a r =>
  obtain⟨h1,h2,h3,h4⟩:=h
  have h4:=h4.resolve_left (by simp)
  have ha:=h1 a (by simp)
  have hr:∀x∈r,0<=x:=fun x hx=>h1 x (by simp[hx])
  have hs:=sum_nn hr
  have ha1:a≠0:=by simpa using h4.1
  simp only[Zmg,ZmO] at h2 h3
  show Zj (mrN r a.toNat)
  refine⟨fun x hx=>?_,by rw[V7];omega,by rw[Zci];omega,.inr ⟨?_, ?_⟩⟩
  ·obtain⟨j,_,rfl⟩:=Zm5.mp hx
   have:=Zw hr j
   split<;>omega
  ·rw[J3 (by omega),if_pos (by omega)]
   have:=Zw hr 0
   omega
  ·rw[V7,J3 (by omega)]
   have q:=Zw hr (max r.length a.toNat-1)
   by_cases z:a.toNat<r.length
   ·rw[if_neg (by omega)]
    have:=h4.2
    simp only[ZmO,Znl] at this
    rw[show max r.length a.toNat-1=r.length-1 by omega]
    rw[show r.length=(r.length-1)+1 by omega] at this
    simp only[List.getD_cons_succ] at this
    omega
   ·rw[if_pos (by omega)];omega
theorem Vq {ns:List Int} (h:ns≠[]):Zz ns=mrN (ns.drop 1) (ns.getD 0 0).toNat:=by
 cases ns with
 |nil=>exact absurd rfl h
 |cons a r=>simp[Zz]
theorem Zj.head {ns:List Int} (h:Zj ns) (hz:ns≠[]):1<=ns.getD 0 0/\ns.getD 0 0<=100:=by
 obtain⟨h1,h2,h3,h4⟩:=h
 have h5:=(h4.resolve_left hz).1
 cases ns with
 |nil=>exact absurd rfl hz
 |cons a r =>
  have:=h1 a (by simp)
  have:=sum_nn (ns:=r) (fun x hx=>h1 x (by simp[hx]))
  simp at h3 h5 ⊢
  omega
theorem Zbb (r:List Int) (i:Nat):mrN r i=(List.range (r++List.replicate (i-r.length) 0).length).map fun(j:Nat)=>if j<i then (r++List.replicate (i-r.length) 0).getD j 0+1 else (r++List.replicate (i-r.length) 0).getD j 0:=by
 unfold mrN
 rw[Zmx,Zm1,show r.length+(i-r.length)=max r.length i by omega]
 apply ZmC
 intro j hj
 have hj:=Zmp.mp hj
 have e:(r++List.replicate (i-r.length) 0).getD j 0=r.getD j 0:=by
  rw[ZlS,ZlS]
  by_cases q:j<r.length
  ·rw[ZlV q]
  ·rw[ZlZ (by omega),Zm7,Zmc (by omega)]
   split<;>rfl
 rw[e]
 split<;>omega
noncomputable def Uf (s:Int):Nat->Int
 |0=>s
 |k+1=>Uf s k*48271%2147483647
theorem Zao {s:Int} (h:0<=s/\s<=2147483647):∀k,0<=Uf s k/\Uf s k<=2147483647
 |0=>h
 |k+1=>by rw[Uf];omega
noncomputable def Zbn (s:Int) (m:Nat):List Int:=(List.range m).map fun(k:Nat)=>Uf s (k+1)/16%1000000
theorem Q2 (s:Int) (m:Nat):Zbn s (m+1)=Zbn s m++[Uf s (m+1)/16%1000000]:=by simp[Zbn,Zmi]
@[simp] theorem Vf (s:Int) (m:Nat):(Zbn s m).length=m:=by simp[Zbn]
noncomputable def Q4 (fs ns:List Int) (m:Nat):Nat->List Int
 |0=>fs
 |i+1=>(Q4 fs ns m i).set (i%m) (((Q4 fs ns m i).getD (i%m) 0+ns.getD i 0)%1000000)
@[simp] theorem VH (fs ns:List Int) (m:Nat):∀i,(Q4 fs ns m i).length=fs.length
 |0=>rfl
 |i+1=>by rw[Q4,Zm4,VH]
noncomputable def Jy (ns:List Int):Int:=if 0<ns.length then 1+ns.getD 0 0%2147483646 else 1
theorem Qo (ns:List Int):0<=Jy ns/\Jy ns<=2147483647:=by unfold Jy;split<;>omega
noncomputable def ZaZ (ns:List Int) (m:Nat):List Int:=Q4 (Zbn (Jy ns) m) ns m ns.length
@[simp] theorem Qt (ns:List Int) (m:Nat):(ZaZ ns m).length=m:=by simp[ZaZ]
theorem UJ:∀{l:List Int}{i:Nat}{v:Int},i<l.length->(l.set i v).sum=l.sum-l.getD i 0+v
 |[],_,_,h=>by simp at h
 |x::xs,0,v,_=>by simp;omega
 |x::xs,i+1,v,h=>by
  have:=UJ (l:=xs) (i:=i) (v:=v) (by simpa using h)
  simp only[List.set_cons_succ,Zmg,List.getD_cons_succ]
  omega
theorem getD_set {l:List Int}{i j:Nat}{v:Int} (h:i<l.length):(l.set i v).getD j 0=if i=j then v else l.getD j 0:=by
 simp only[ZlS,List.getElem?_set,if_pos h]
 split<;>rfl
theorem ZcG {l:List Int}{j:Nat}{c:Int} (h:Zj l) (hc:0<=c) (hs:l.sum+c<=100) (hj:j<l.length):Zj (l.set j (l.getD j 0+c)):=by
 obtain⟨h1,h2,h3,h4⟩:=h
 have h4:=h4.resolve_left (fun z=>by rw[z] at hj;simp at hj)
 have g0:=Zw h1 0
 have g1:=Zw h1 (l.length-1)
 refine⟨fun x hx=>?_,by simp;omega,by rw[UJ hj];omega,.inr ⟨?_, ?_⟩⟩
 ·rcases ZmS hx with z|z
  ·exact h1 x z
  ·have:=Zw h1 j;omega
 ·rw[getD_set hj];split
  ·rename_i z;rw[z];omega
  ·omega
 ·rw[Zm4,getD_set hj];split
  ·rename_i z;rw[z];omega
  ·omega
theorem ZdO {l:List Int}{a b:Int} (hn:∀x∈l,0<=x) (h0:0<l.length) (h1:l.length<=100) (ha:1<=a) (hb:1<=b) (hs:l.sum+a+b<=100):Zj ((l.set 0 a).set (l.length-1) b)/\((l.set 0 a).set (l.length-1) b).sum<=l.sum+a+b:=by
 have hn1:∀x∈l.set 0 a,0<=x:=fun x hx=>by
  rcases ZmS hx with z|z
  ·exact hn x z
  ·omega
 have hl:l.length-1<(l.set 0 a).length:=by simp;omega
 have g0:=Zw hn 0
 have g1:=Zw hn1 (l.length-1)
 have e:((l.set 0 a).set (l.length-1) b).sum<=l.sum+a+b:=by
  rw[UJ hl,UJ h0];omega
 refine⟨⟨fun x hx=>?_,by simp;omega,by omega,.inr ⟨?_, ?_⟩⟩,e⟩
 ·rcases ZmS hx with z|z
  ·exact hn1 x z
  ·omega
 ·rw[getD_set hl,getD_set h0]
  split
  ·omega
  ·rw[if_pos rfl];omega
 ·rw[Zm4,Zm4,getD_set hl,if_pos rfl];omega
theorem Ub:∀{l:List Int} (n:Nat),(∀x∈l,0<=x)->(l.take n).sum<=l.sum
 |[],_,_=>by simp
 |x::xs,0,h=>by have:=sum_nn h;simp at this ⊢;omega
 |x::xs,n+1,h=>by
  have:=Ub (l:=xs) n (fun y hy=>h y (by simp[hy]))
  simp;omega
noncomputable def Ug (ns:List Int) (many:Int):List Int:=(List.range (many+1).toNat).map fun(p:Nat)=>many-p+ns.getD (8+p) 0/3%2
noncomputable def Ja (ns:List Int) (many:Int):List Int:=(List.range many.toNat).map fun(p:Nat)=>ns.getD (8+p) 0/3%5
noncomputable def JM (ns:List Int) (many:Int):List Int:=if 0<many then ((Ja ns many).set 0 (1+(Ja ns many).getD 0 0)).set (many.toNat-1) (1+ns.getD 7 0%4) else Ja ns many
noncomputable def Uo (ns:List Int):List Int:=((List.replicate (60+ns.getD 3 0%41).toNat 0).set 0 (1+ns.getD 4 0%3)).set ((60+ns.getD 3 0%41).toNat-1) (1+ns.getD 5 0%3)
noncomputable def Vt (ns:List Int):List Int:=
 if ns.getD 1 0%4=3/\ns.getD 2 0%4=1 then List.replicate (88+ns.getD 3 0%13).toNat 1
 else if ns.getD 1 0%4=3/\ns.getD 2 0%4=2 then [100-ns.getD 3 0%40]
 else if ns.getD 1 0%4=3/\ns.getD 2 0%4=3 then (Uo ns).set (ns.getD 6 0%(60+ns.getD 3 0%41)).toNat ((Uo ns).getD (ns.getD 6 0%(60+ns.getD 3 0%41)).toNat 0+ns.getD 7 0%30)
 else if ns.getD 1 0%4=2 then ZcS (Ug ns (ns.getD 0 0%13))
 else if ns.getD 1 0%4=1/\0<ns.getD 0 0%13 then (JM ns (ns.getD 0 0%13)).set (ns.getD 2 0%(ns.getD 0 0%13)).toNat ((JM ns (ns.getD 0 0%13)).getD (ns.getD 2 0%(ns.getD 0 0%13)).toNat 0+ns.getD 3 0%40)
 else JM ns (ns.getD 0 0%13)
theorem J0:∀n,(List.replicate n (0:Int)).sum=0
 |0=>rfl
 |n+1=>by simp[Zmq,J0 n]
theorem Vb:∀n:Nat,(List.replicate n (1:Int)).sum=n
 |0=>rfl
 |n+1=>by simp only[Zmq,Zmg,Vb n];omega
@[simp] theorem VE (ns:List Int):(Uo ns).length=(60+ns.getD 3 0%41).toNat:=by simp[Uo]
theorem Zdx (ns:List Int):Zj (Uo ns)/\(Uo ns).sum<=6:=by
 have h:=ZdO (l:=List.replicate (60+ns.getD 3 0%41).toNat 0) (a:=1+ns.getD 4 0%3) (b:=1+ns.getD 5 0%3) (fun x hx=>by rw[List.eq_of_mem_replicate hx];omega) (by simp;omega) (by simp;omega) (by omega) (by omega) (by rw[J0];omega)
 rw[J0,Zm1] at h
 exact⟨h.1,Znm h.2 (by omega)⟩
@[simp] theorem Qv (ns:List Int) (m:Int):(Ja ns m).length=m.toNat:=by simp[Ja]
theorem Zdy (ns:List Int) (m:Int):∀x∈Ja ns m,0<=x:=fun x hx=>by
 obtain⟨k,_,rfl⟩:=Zm5.mp hx
 omega
theorem Zco (ns:List Int) (m:Int) (h:0<=m):(Ja ns m).sum<=4*m:=by
 have:=Zx (f:=fun(p:Nat)=>ns.getD (8+p) 0/3%5) (g:=fun _=>4) m.toNat (fun i _=>by omega)
 rw[ZL] at this
 unfold Ja
 omega
theorem Vu (ns:List Int) {m:Int} (h:0<=m/\m<=12):Zj (JM ns m)/\(JM ns m).sum<=60/\(JM ns m).length=m.toNat:=by
 unfold JM
 split
 ·have hg:(Ja ns m).getD 0 0<=4/\0<=(Ja ns m).getD 0 0:=by
   have hm:=Vv (ns:=Ja ns m) (i:=0) (by simp;omega)
   obtain⟨k,_,e⟩:=Zm5.mp hm
   rw[<- e];omega
  have hs:=Zco ns m h.1
  have:=ZdO (l:=Ja ns m) (a:=1+(Ja ns m).getD 0 0) (b:=1+ns.getD 7 0%4) (Zdy ns m) (by simp;omega) (by simp;omega) (by omega) (by omega) (by omega)
  rw[Qv] at this
  exact⟨this.1,by omega,by simp⟩
 ·have:m=0:=by omega
  subst this
  exact⟨⟨by simp[Ja],by simp[Ja],by simp[Ja],.inl (by simp[Ja])⟩,by simp[Ja],by simp⟩
theorem ZcV {ns:List Int}{m:Int}{i:Nat} (h:i<(m+1).toNat):(Ug ns m).getD i 0=m-i+ns.getD (8+i) 0/3%2:=by
 simp[Ug,ZlS,Zmr h]
theorem Ze0 (ns:List Int) {m:Int} (h:0<=m/\m<=12):Zj (ZcS (Ug ns m)):=by
 have hl:(Ug ns m).length=(m+1).toNat:=by simp[Ug]
 have hn:∀x∈Ug ns m,0<=x:=fun x hx=>by
  obtain⟨k,hk,rfl⟩:=Zm5.mp hx
  have:=Zmp.mp hk
  omega
 have hs:(Ug ns m).sum<=91:=by
  have h1:=Zx (f:=fun(p:Nat)=>m-p+ns.getD (8+p) 0/3%2) (g:=fun(p:Nat)=>13-(p:Int)) (m+1).toNat (fun i _=>by omega)
  have h2:∀n:Fin 14,((List.range n).map fun(p:Nat)=>13-(p:Int)).sum<=91:=by decide
  have:=h2 ⟨(m+1).toNat,by omega⟩
  unfold Ug
  simp only at this
  omega
 have ht:=UG (Ug ns m) (Ug ns m).length
 unfold ZcS
 generalize hT:J5 (Ug ns m) (Ug ns m).length=t at ht
 refine⟨fun x hx=>hn x (List.mem_of_mem_take hx),by simp;omega,Znm (Ub t hn) (by omega), ?_⟩
 by_cases z:t=0
 ·exact .inl (by rw[z];rfl)
 ·right
  have hlast:=V1 (Ug ns m) (Ug ns m).length
  rw[hT] at hlast
  have hlast:=hlast (by omega)
  have tk:∀i,i<t->((Ug ns m).take t).getD i 0=(Ug ns m).getD i 0:=fun i hi=>by
   rw[ZlS,ZmG hi,<- ZlS]
  rw[ZmM,Nat.min_eq_left ht,tk 0 (by omega),tk (t-1) (by omega)]
  refine⟨?_,hlast⟩
  by_cases q:m=0
  ·have:t=1:=by omega
   rw[this] at hlast;exact hlast
  ·rw[ZcV (by omega)];omega
theorem Zdw (ns:List Int):Zj (Vt ns):=by
 unfold Vt
 split
 ·have:∀x∈List.replicate (88+ns.getD 3 0%13).toNat (1:Int),x=1:=fun x hx=>List.eq_of_mem_replicate hx
  have g:∀i,i<(88+ns.getD 3 0%13).toNat->(List.replicate (88+ns.getD 3 0%13).toNat (1:Int)).getD i 0=1:=fun i hi=>this _ (Vv (by simpa using hi))
  refine⟨fun x hx=>by rw[this x hx];omega,by simp;omega,by rw[Vb];omega,.inr ⟨?_, ?_⟩⟩
  ·rw[g 0 (by omega)];omega
  ·rw[Zm1,g _ (by omega)];omega
 split
 ·exact⟨fun x hx=>by simp at hx;omega,by simp,by simp;omega,.inr ⟨by simp;omega,by simp;omega⟩⟩
 split
 ·have h:=Zdx ns
  exact ZcG h.1 (by omega) (by omega) (by rw[VE];have:=Zm6 (ns.getD 6 0) (show 0<60+ns.getD 3 0%41 by omega);have:=ZmI (ns.getD 6 0) (show 60+ns.getD 3 0%41≠0 by omega);omega)
 split
 ·exact Ze0 ns (by omega)
 split
 ·rename_i hm
  have h:=Vu ns (m:=ns.getD 0 0%13) (by omega)
  exact ZcG h.1 (by omega) (by omega) (by rw[h.2.2];have:=Zm6 (ns.getD 2 0) hm.2;have:=ZmI (ns.getD 2 0) (show ns.getD 0 0%13≠0 by omega);omega)
 ·exact(Vu ns (by omega)).1
noncomputable def mIt:Nat->List Int->List Int
 |0,l=>l
 |n+1,l=>Zz (mIt n l)
theorem Vd (m:Nat) (l:List Int):∀n,mIt (m+n) l=mIt n (mIt m l)
 |0=>rfl
 |n+1=>by
  show Zz (mIt (m+n) l)=Zz (mIt n (mIt m l))
  rw[Vd m l n]
theorem ZH {l:List Int} (h:Zj l):∀n,Zj (mIt n l)
 |0=>h
 |n+1=>Zck (ZH h n)
theorem ZV (l:List Int) (i:Nat):(Zz l).getD i 0=l.getD (i+1) 0+if i<(l.getD 0 0).toNat then 1 else 0:=by
 by_cases hz:l=[]
 ·subst hz;simp[Zz]
 ·rw[Vq hz]
  have e:(l.drop 1).getD i 0=l.getD (i+1) 0:=by
   simp[ZlS,List.getElem?_drop,Nat.add_comm]
  by_cases c:i<max (l.drop 1).length (l.getD 0 0).toNat
  ·rw[J3 c,e]
  ·rw[ZM (by simp[mrN];simp at c;omega),<- e,ZM (ns:=l.drop 1) (by omega),if_neg (by omega)];rfl
noncomputable def enE (i:Nat) (h:Int):Int:=2*i*h+h*h-h
noncomputable def enN (N:Nat) (l:List Int):Int:=((List.range N).map fun(i:Nat)=>enE i (l.getD i 0)).sum
theorem Zgz (i:Nat) (h:Int):enE i (h+1)=enE (i+1) h+2*i:=by
 unfold enE
 rw[show ((i+1:Nat):Int)=(i:Int)+1 by omega]
 simp only[ZmL,ZmB,ZmK,ZmD]
 omega
theorem ZdC (i:Nat) (h:Int):enE i h=enE (i+1) h-2*h:=by
 unfold enE
 rw[show ((i+1:Nat):Int)=(i:Int)+1 by omega]
 simp only[ZmL,ZmB,ZmK,ZmD]
 omega
theorem Zg0 (i:Nat) {h:Int} (hh:0<=h):0<=enE i h:=by
 unfold enE
 have h1:0<=2*(i:Int)*h:=Int.mul_nonneg (by omega) hh
 have h2:h<=h*h:=by
  by_cases c:h=0
  ·subst c;simp
  ·have:=Int.mul_le_mul_of_nonneg_right (show 1<=h by omega) hh
   rwa [ZmD] at this
 omega
theorem Js (f:Nat->Int):∀n,((List.range (n+1)).map f).sum=f 0+((List.range n).map fun i=>f (i+1)).sum
 |0=>by simp
 |n+1=>by
  rw[Zmi,Zme,Zmj,Js f n,Zmi,Zme,Zmj]
  simp only[Zmd,Zmn,Zmg,Zmy]
  omega
theorem Z2 {f g:Nat->Int}{n:Nat} (h:∀i,i<n->f i=g i):((List.range n).map f).sum=((List.range n).map g).sum:=by
 congr 1
 exact ZmC fun i hi=>h i (Zmp.mp hi)
theorem Zeu {h:Int} (h0:0<=h):∀n:Nat,h<=n->((List.range n).map fun(i:Nat)=>if i<h.toNat then 2*(i:Int) else 0).sum=h*h-h:=by
 have key:∀(m n:Nat),m<=n->((List.range n).map fun(i:Nat)=>if i<m then 2*(i:Int) else 0).sum=(m:Int)*m-m:=by
  intro m n
  induction n with
  |zero =>
   intro h
   have:m=0:=by omega
   subst this;simp
  |succ n ih =>
   intro h
   rw[Zmi,Zme,Zmj]
   simp only[Zmd,Zmn,Zmg,Zmy]
   by_cases c:m<=n
   ·rw[ih c,if_neg (by omega)];omega
   ·have e:m=n+1:=by omega
    subst e
    have h1:((List.range n).map fun(i:Nat)=>if i<n+1 then 2*(i:Int) else 0).sum=((List.range n).map fun(i:Nat)=>if i<n then 2*(i:Int) else 0).sum:=
     Z2 fun i hi=>by rw[if_pos (by omega),if_pos hi]
    rw[h1]
    have ih2:((List.range n).map fun(i:Nat)=>if i<n then 2*(i:Int) else 0).sum=(n:Int)*n-n:=by
     clear ih h h1 c
     induction n with
     |zero=>simp
     |succ k ihk =>
      rw[Zmi,Zme,Zmj]
      simp only[Zmd,Zmn,Zmg,Zmy]
      rw[show ((List.range k).map fun(i:Nat)=>if i<k+1 then 2*(i:Int) else 0).sum=((List.range k).map fun(i:Nat)=>if i<k then 2*(i:Int) else 0).sum from Z2 fun i hi=>by rw[if_pos (by omega),if_pos hi]]
      rw[ihk,if_pos (by omega),show ((k+1:Nat):Int)=(k:Int)+1 by omega]
      simp only[ZmL,ZmB,ZmK,ZmD]
      omega
    rw[ih2,if_pos (by omega),show ((n+1:Nat):Int)=(n:Int)+1 by omega]
    simp only[ZmL,ZmB,ZmK,ZmD]
    omega
 intro n hn
 have:=key h.toNat n (by omega)
 rwa [Znj h0] at this
noncomputable def Zc2 (l:List Int):Int:=((List.range 200).map fun(i:Nat)=>if i<(l.getD 0 0).toNat then 0 else l.getD (i+1) 0).sum
theorem UT {l:List Int} (h:Zj l) {i:Nat} (hi:100<=i):l.getD i 0=0:=ZM (by have:=h.2.1;omega)
theorem ZaC {l:List Int} (h:Zj l):enN 200 (Zz l)=enN 200 l-2*Zc2 l:=by
 have h0:=Zw h.1 0
 have h1:l.getD 0 0<=100:=by
  by_cases hz:l=[]
  ·subst hz;simp
  ·exact(h.head hz).2
 have e1:enN 200 l=enN 201 l:=by
  unfold enN
  rw[Zmi (n:=200),Zme,Zmj]
  simp only[Zmd,Zmn,Zmg,Zmy]
  rw[UT h (by omega)]
  simp[enE]
 rw[e1]
 unfold enN Zc2
 rw[Js (fun i=>enE i (l.getD i 0)) 200]
 have e2:((List.range 200).map fun(i:Nat)=>enE i ((Zz l).getD i 0)).sum=((List.range 200).map fun(i:Nat)=>(enE (i+1) (l.getD (i+1) 0)+(if i<(l.getD 0 0).toNat then 2*(i:Int) else 0))+(-2)*(if i<(l.getD 0 0).toNat then 0 else l.getD (i+1) 0)).sum:=by
  refine Z2 fun i hi=>?_
  rw[ZV]
  by_cases c:i<(l.getD 0 0).toNat
  ·rw[if_pos c,if_pos c,if_pos c,Zgz];omega
  ·rw[if_neg c,if_neg c,if_neg c,Int.add_zero,ZdC];omega
 rw[e2,ZD,ZD,Zeu h0 200 (by omega)]
 have e3:∀(f:Nat->Int) (n:Nat),((List.range n).map fun i=>(-2)*f i).sum=(-2)*((List.range n).map f).sum:=by
  intro f n
  induction n with
  |zero=>simp
  |succ n ih =>
   rw[Zmi,Zme,Zmj,ih,Zme,Zmj]
   simp only[Zmd,Zmn,Zmg,Zmy,ZmL]
   omega
 rw[e3]
 have e4:enE 0 (l.getD 0 0)=l.getD 0 0*l.getD 0 0-l.getD 0 0:=by unfold enE;simp
 rw[e4]
 omega
theorem Zhm {l:List Int} (h:Zj l):0<=enN 200 l:=by
 unfold enN
 have:=Zx (f:=fun _=>0) (g:=fun i=>enE i (l.getD i 0)) 200 (fun i _=>Zg0 i (Zw h.1 i))
 rw[ZL] at this
 simpa using this
theorem Zc1 {l:List Int} (h:Zj l):0<=Zc2 l:=by
 unfold Zc2
 have:=Zx (f:=fun _=>0) (g:=fun(i:Nat)=>if i<(l.getD 0 0).toNat then 0 else l.getD (i+1) 0) 200 (fun i _=>by
  show (0:Int)<=if i<(l.getD 0 0).toNat then 0 else l.getD (i+1) 0
  split
  ·exact ZmY _
  ·exact Zw h.1 _)
 rw[ZL] at this
 simpa using this
theorem Jd {f:Nat->Int}:∀n,(∀i,i<n->0<=f i)->((List.range n).map f).sum<=0->∀i,i<n->f i=0
 |0,_,_,i,hi=>by omega
 |n+1,hn,hs,i,hi=>by
  rw[Zmi,Zme,Zmj] at hs
  simp only[Zmd,Zmn,Zmg,Zmy] at hs
  have h1:=Zx (f:=fun _=>0) (g:=f) n (fun i hi=>hn i (by omega))
  rw[ZL] at h1
  have h2:=hn n (by omega)
  by_cases c:i=n
  ·subst c;omega
  ·exact Jd n (fun i hi=>hn i (by omega)) (by omega) i (by omega)
def ZgB (l:List Int):Prop:=∀i:Nat,l.getD 0 0<=i->l.getD (i+1) 0=0
theorem Ze2 {l:List Int} (h:Zj l) (he:enN 200 l<=enN 200 (Zz l)):ZgB l:=by
 have h1:=ZaC h
 have h2:=Zc1 h
 intro i hi
 by_cases c:i<200
 ·have:=Jd (f:=fun(i:Nat)=>if i<(l.getD 0 0).toNat then 0 else l.getD (i+1) 0) 200 (fun i _=>by
   show (0:Int)<=if i<(l.getD 0 0).toNat then 0 else l.getD (i+1) 0
   split
   ·exact ZmY _
   ·exact Zw h.1 _) (by show Zc2 l<=0;omega) i c
  rwa [if_neg (by have:=Zw h.1 0;omega)] at this
 ·exact UT h (by omega)
def occ (l:List Int) (d i:Nat):Prop:=(d:Int)-i<l.getD i 0
theorem Zce {l:List Int} (h:Zj l) (hr:ZgB l) {d i:Nat} (hi:i<=d):occ (Zz l) d i ↔ occ l d ((i+1)%(d+1)):=by
 have h0:=Zw h.1 0
 have h1:=Zw h.1 (i+1)
 have hri:=hr i
 unfold occ
 rw[ZV]
 by_cases c:i=d
 ·subst c
  rw[Nat.mod_self]
  by_cases e:i<(l.getD 0 0).toNat
  ·rw[if_pos e]
   constructor<;>(intro;omega)
  ·rw[if_neg e,hri (by omega)]
   constructor<;>(intro;omega)
 ·rw[Zmw (by omega)]
  by_cases e:i<(l.getD 0 0).toNat
  ·rw[if_pos e]
   constructor<;>(intro;omega)
  ·rw[if_neg e,hri (by omega)]
   constructor<;>(intro;omega)
theorem QQ {l:List Int} (h:Zj l) (hr:∀t,ZgB (mIt t l)) (d:Nat):∀t i,i<=d->(occ (mIt t l) d i ↔ occ l d ((i+t)%(d+1)))
 |0,i,hi=>by
  rw[Znc,Zmw (by omega)]
  exact Iff.rfl
 |t+1,i,hi=>by
  show occ (Zz (mIt t l)) d i ↔ _
  rw[Zce (ZH h t) (hr t) hi]
  have hm:(i+1)%(d+1)<=d:=by have:=ZmZ (i+1) (show 0<d+1 by omega);omega
  rw[QQ h hr d t _ hm,Nat.mod_add_mod,show i+1+t=i+(t+1) by omega]
theorem crt (d a b:Nat) (ha:a<=d+1) (hb:b<=d):∃t,t%(d+2)=a/\t%(d+1)=b:=by
 have hu:=ZmZ (b+(d+2)-a) (show 0<d+2 by omega)
 have hq:=Nat.div_add_mod (b+(d+2)-a) (d+2)
 refine⟨b+(d+1)*((b+(d+2)-a)%(d+2)), ?_, ?_⟩
 ·generalize (b+(d+2)-a)%(d+2)=u at hu hq
  generalize (b+(d+2)-a)/(d+2)=q at hq
  have e:b+(d+1)*u+(d+2)=a+(d+2)*(q+u):=by
   have e1:(d+2)*(q+u)=(d+2)*q+(d+2)*u:=Nat.mul_add _ _ _
   have e2:(d+2)*u=(d+1)*u+u:=by rw[show d+2=(d+1)+1 by omega,Nat.add_mul,Nat.one_mul]
   omega
  have:(b+(d+1)*u+(d+2))%(d+2)=a:=by rw[e,Nat.add_mul_mod_self_left,Zmw (by omega)]
  rwa [ZmJ] at this
 ·rw[Nat.add_mul_mod_self_left,Zmw (by omega)]
theorem UC {l:List Int} (h:Zj l) (hr:∀t,ZgB (mIt t l)) {d a:Nat} (ha:a<=d+1) (ho:occ l (d+1) a):∀b,b<=d->occ l d b:=by
 intro b hb
 obtain⟨t,t1,t2⟩:=crt d a b ha hb
 have h1:occ (mIt t l) (d+1) 0:=by
  rw[QQ h hr (d+1) t 0 (by omega),Znd,t1];exact ho
 have h2:occ (mIt t l) d 0:=by
  unfold occ at h1 ⊢
  omega
 rw[QQ h hr d t 0 (by omega),Znd,t2] at h2
 exact h2
noncomputable def tri:Nat->Int
 |0=>0
 |k+1=>tri k+(k+1)
theorem VZ:∀k:Nat,2*tri k=(k:Int)*(k+1)
 |0=>by simp[tri]
 |k+1=>by
  rw[tri,ZmL,VZ k,show ((k+1:Nat):Int)=(k:Int)+1 by omega]
  simp only[ZmL,ZmB,ZmK,ZmD]
  omega
theorem Zbu (k:Nat):((k:Int)+1)*((k:Int)+2)/2=tri (k+1):=by
 have:=VZ (k+1)
 rw[show ((k+1:Nat):Int)=(k:Int)+1 by omega,show (k:Int)+1+1=(k:Int)+2 by omega] at this
 rw[<- this]
 omega
theorem JT {a b:Nat} (h:a<=b):tri a<=tri b:=by
 obtain⟨d,rfl⟩:∃d,b=a+d:=⟨b-a,by omega⟩
 clear h
 induction d with
 |zero=>exact ZmY _
 |succ d ih=>rw[<- Nat.add_assoc,tri];omega
theorem Zbt:∀k:Nat,(k:Int)<=tri k
 |0=>by simp[tri]
 |k+1=>by have:=Zbt k;have:=JT (Zm9 k);rw[tri];simp[tri] at this;omega
noncomputable def kN (s:Int):Nat:=((List.range (s.toNat+1)).find? fun(k:Nat)=>decide (s<tri (k+1))).getD 0
theorem VA {s:Int} (h:0<=s):tri (kN s)<=s/\s<tri (kN s+1)/\(kN s:Int)<=s:=by
 cases hf:(List.range (s.toNat+1)).find? fun(k:Nat)=>decide (s<tri (k+1)) with
 |none =>
  have:=List.find?_eq_none.mp hf s.toNat (Zmp.mpr (by omega))
  have h2:=Zbt (s.toNat+1)
  simp at this
  omega
 |some k =>
  have h1:=List.find?_range_eq_some.mp hf
  have e:kN s=k:=by unfold kN;rw[hf];rfl
  rw[e]
  have hk:=of_decide_eq_true h1.1
  have hm:=Zmp.mp h1.2.1
  refine⟨?_,hk,by omega⟩
  cases k with
  |zero=>exact h
  |succ k =>
   have:=h1.2.2 k (by omega)
   simp at this
   exact this
theorem Zhl {s:Int}{k:Nat} (h1:tri k<=s) (h2:s<tri (k+1)):kN s=k:=by
 have hs:0<=s:=by have:=Zbt k;omega
 obtain⟨a,b,-⟩:=VA hs
 by_cases c:kN s<k
 ·have:=JT (show kN s+1<=k by omega);omega
 ·by_cases d:k<kN s
  ·have:=JT (show k+1<=kN s by omega);omega
  ·omega
noncomputable def adI (l:List Int) (k i:Nat):Int:=l.getD i 0-((k:Int)-i)
structure Zag (l:List Int) (k:Nat):Prop where
 lo:tri k<=l.sum
 hi:l.sum<tri (k+1)
 ad:∀i,i<=k->0<=adI l k i/\adI l k i<=1
 z:∀i,k<i->l.getD i 0=0
def Row (l:List Int):Prop:=Zag l (kN l.sum)
theorem Zag.row {l:List Int}{k:Nat} (h:Zag l k):Row l:=by unfold Row;rw[Zhl h.lo h.hi];exact h
theorem Uc (D:Nat):((List.range (D+1)).map fun(i:Nat)=>(D:Int)-i).sum=tri D:=by
 have key:∀(n:Nat) (c:Int),((List.range n).map fun(i:Nat)=>c-i).sum=n*c-(tri n-n):=by
  intro n c
  induction n with
  |zero=>simp[tri]
  |succ n ih =>
   rw[Zmi,Zme,Zmj,ih]
   simp only[Zmd,Zmn,Zmg,Zmy]
   rw[tri,show ((n+1:Nat):Int)=(n:Int)+1 by omega,ZmB,ZmD]
   omega
 rw[key]
 have:=VZ D
 rw[tri,show ((D+1:Nat):Int)=(D:Int)+1 by omega]
 simp only[ZmL,ZmB,ZmK,ZmD] at this ⊢
 omega
theorem Qm {l:List Int}{n:Nat} (h:l.length<=n):((List.range n).map fun(i:Nat)=>l.getD i 0).sum=l.sum:=by
 have:=JC l (n-l.length)
 rwa [show l.length+(n-l.length)=n by omega] at this
theorem VF {l:List Int} (h:Zj l) {n:Nat} (hz:∀i,n<=i->l.getD i 0=0):l.length<=n:=by
 rcases h.2.2.2 with c|c
 ·subst c;simp
 ·by_cases e:l.length<=n
  ·exact e
  ·exact absurd (hz (l.length-1) (by omega)) c.2
theorem QL {l:List Int} (h:Zj l) (hr:∀t,ZgB (mIt t l)):Row l:=by
 by_cases hz:l=[]
 ·subst hz
  exact Zag.row (k:=0) ⟨by simp[tri],by simp[tri],fun i hi=>by simp[adI];omega,fun i _=>by simp⟩
 have hh:=h.head hz
 have hfar:∀d i,200<=d->i<=d->¬occ l d i:=by
  intro d i hd hi ho
  unfold occ at ho
  by_cases c:100<=i
  ·rw[UT h c] at ho;omega
  ·have h1:=Zw h.1 i
   have h2:l.getD i 0<=100:=by
    have hs:=h.2.2.1
    by_cases e:i<l.length
    ·have:=Zgg h.1 _ (Vv e);omega
    ·rw[ZM (by omega)];omega
   omega
 have P0:∃i,i<=0/\occ l 0 i:=⟨0,by omega,by unfold occ;omega⟩
 have hD:∃D,(∃i,i<=D/\occ l D i)/\∀i,i<=D+1->¬occ l (D+1) i:=by
  have key:∀n D,D+n=200->(∃i,i<=D/\occ l D i)->∃D,(∃i,i<=D/\occ l D i)/\∀i,i<=D+1->¬occ l (D+1) i:=by
   intro n
   induction n with
   |zero=>rintro D hD ⟨i,hi,ho⟩;exact absurd ho (hfar D i (by omega) hi)
   |succ n ih =>
    intro D hD hP
    by_cases c:∃i,i<=D+1/\occ l (D+1) i
    ·exact ih (D+1) (by omega) c
    ·exact⟨D,hP,fun i hi ho=>c ⟨i,hi,ho⟩⟩
  exact key 200 0 (by omega) P0
 obtain⟨D,⟨a,ha,hoa⟩,hno⟩:=hD
 have hup:∀n i,i<=D+1+n->¬occ l (D+1+n) i:=by
  intro n
  induction n with
  |zero=>exact hno
  |succ n ih =>
   intro i hi ho
   exact ih 0 (by omega) (UC h hr (d:=D+1+n) (a:=i) hi ho 0 (by omega))
 have zz:∀i,D<i->l.getD i 0=0:=by
  intro i hi
  have:=hup (i-(D+1)) i (by omega)
  rw[show D+1+(i-(D+1))=i by omega] at this
  unfold occ at this
  have:=Zw h.1 i
  omega
 have bd:∀i,i<=D->0<=adI l D i/\adI l D i<=1:=by
  intro i hi
  unfold adI
  have h1:=hno i (by omega)
  unfold occ at h1
  refine⟨?_,by omega⟩
  by_cases c:i=D
  ·have:=Zw h.1 i;omega
  ·have:=UC h hr (d:=D-1) (a:=a) (by omega) (by rw[show D-1+1=D by omega];exact hoa) i (by omega)
   unfold occ at this
   omega
 have hlen:l.length<=D+1:=VF h fun i hi=>zz i (by omega)
 have hsum:l.sum=tri D+((List.range (D+1)).map fun(i:Nat)=>adI l D i).sum:=by
  rw[<- Qm hlen,<- Uc D,<- ZD]
  exact Z2 fun i _=>by unfold adI;omega
 have s0:=Zx (f:=fun _=>0) (g:=fun(i:Nat)=>adI l D i) (D+1) (fun i hi=>(bd i (by omega)).1)
 rw[ZL] at s0
 have s1:=Zx (f:=fun(i:Nat)=>adI l D i) (g:=fun _=>1) (D+1) (fun i hi=>(bd i (by omega)).2)
 rw[ZL] at s1
 by_cases c:((List.range (D+1)).map fun(i:Nat)=>adI l D i).sum<=D
 ·refine Zag.row (k:=D) ⟨by omega,by rw[tri];omega,bd,zz⟩
 ·have hall:∀i,i<D+1->1-adI l D i=0:=by
   refine Jd (f:=fun(i:Nat)=>1-adI l D i) (D+1) (fun i hi=>by have:=(bd i (by omega)).2;omega) ?_
   have:=ZD (fun(i:Nat)=>1-adI l D i) (fun(i:Nat)=>adI l D i) (D+1)
   rw[show ((List.range (D+1)).map fun(i:Nat)=>1-adI l D i+adI l D i).sum=((List.range (D+1)).map fun _=>(1:Int)).sum from Z2 fun i _=>by omega,ZL] at this
   omega
  refine Zag.row (k:=D+1) ⟨by rw[tri];omega,by rw[tri,tri];omega,fun i hi=>?_,fun i hi=>zz i (by omega)⟩
  by_cases e:i=D+1
  ·subst e
   unfold adI
   rw[zz _ (by omega)]
   omega
  ·have:=hall i (by omega)
   unfold adI at this ⊢
   omega
theorem Um {l:List Int} (h:Zj l):(Zz l).sum=l.sum:=by
 by_cases hz:l=[]
 ·subst hz;rfl
 ·rw[Vq hz,Zci]
  have h1:=h.head hz
  have e:l=l.getD 0 0::l.drop 1:=by
   cases l with
   |nil=>exact absurd rfl hz
   |cons x r=>simp
  conv=>rhs;rw[e,Zmg]
  rw[Znj (by omega)]
  omega
theorem Zcn {l:List Int} (h:Zj l):∀n,(mIt n l).sum=l.sum
 |0=>rfl
 |n+1=>by
  show (Zz (mIt n l)).sum=_
  rw[Um (ZH h n),Zcn h n]
theorem Zb8 {l:List Int}{k:Nat} (h:Zj l) (hk:Zag l k):Zag (Zz l) k/\∀i,i<=k->adI (Zz l) k i=adI l k ((i+1)%(k+1)):=by
 have a0:=hk.ad 0 (by omega)
 have e0:l.getD 0 0=k+adI l k 0:=by unfold adI;omega
 have key:∀i,i<=k->adI (Zz l) k i=adI l k ((i+1)%(k+1)):=by
  intro i hi
  by_cases c:i=k
  ·subst c
   rw[Nat.mod_self]
   unfold adI at a0 e0 ⊢
   rw[ZV,hk.z (i+1) (by omega)]
   by_cases d:i<(l.getD 0 0).toNat
   ·rw[if_pos d];omega
   ·rw[if_neg d];omega
  ·rw[Zmw (by omega)]
   unfold adI at a0 e0 ⊢
   rw[ZV,if_pos (by omega)]
   omega
 refine⟨⟨by rw[Um h];exact hk.lo,by rw[Um h];exact hk.hi,fun i hi=>?_,fun i hi=>?_⟩,key⟩
 ·rw[key i hi]
  exact hk.ad _ (by have:=ZmZ (i+1) (show 0<k+1 by omega);omega)
 ·rw[ZV,hk.z (i+1) (by omega),if_neg (by omega)];rfl
theorem Zb9 {l:List Int}{k:Nat} (h:Zj l) (hk:Zag l k):∀n,Zag (mIt n l) k/\∀i,i<=k->adI (mIt n l) k i=adI l k ((i+n)%(k+1))
 |0=>⟨hk,fun i hi=>by rw[Znc,Zmw (by omega)];rfl⟩
 |n+1=>by
  obtain⟨h1,h2⟩:=Zb9 h hk n
  obtain⟨h3,h4⟩:=Zb8 (ZH h n) h1
  refine⟨h3,fun i hi=>?_⟩
  show adI (Zz (mIt n l)) k i=_
  rw[h4 i hi,h2 _ (by have:=ZmZ (i+1) (show 0<k+1 by omega);omega),Nat.mod_add_mod,show i+1+n=i+(n+1) by omega]
theorem Zdv {a b:List Int} (ha:Zj a) (hb:Zj b) (h:∀i,a.getD i 0=b.getD i 0):a=b:=by
 have hl:a.length=b.length:=by
  have h1:a.length<=b.length:=VF ha fun i hi=>by rw[h i,ZM hi]
  have h2:b.length<=a.length:=VF hb fun i hi=>by rw[<- h i,ZM hi]
  omega
 rw[V9 a,V9 b,hl]
 exact ZmC fun i _=>h i
theorem Zez {a b:List Int}{k:Nat} (ha:Zj a) (hb:Zj b) (ka:Zag a k) (kb:Zag b k) (h:∀i,i<=k->adI a k i=adI b k i):a=b:=by
 refine Zdv ha hb fun i=>?_
 by_cases c:i<=k
 ·have:=h i c
  unfold adI at this
  omega
 ·rw[ka.z i (by omega),kb.z i (by omega)]
theorem Zc3 {l:List Int} (h:Zj l) (m:Nat):∀n,enN 200 (mIt (m+n) l)<=enN 200 (mIt m l)
 |0=>ZmY _
 |n+1=>by
  have h1:=Zc3 h m n
  have h2:=ZaC (ZH h (m+n))
  have h3:=Zc1 (ZH h (m+n))
  show enN 200 (Zz (mIt (m+n) l))<=_
  omega
theorem Zg5:∀(m:Nat) {l:List Int},Zj l->(enN 200 l).toNat<=m->∃n,Row (mIt n l)
 |m,l,h,hm=>by
  by_cases c:∀t,enN 200 l<=enN 200 (mIt t l)
  ·refine⟨0,QL h fun t=>Ze2 (ZH h t) ?_⟩
   have h1:=Zc3 h 0 t
   rw[Znd] at h1
   exact Znm h1 (c (t+1))
  ·have:∃t,enN 200 (mIt t l)<enN 200 l:=by
    apply Classical.byContradiction
    intro z
    exact c fun t=>by
     by_cases q:enN 200 l<=enN 200 (mIt t l)
     ·exact q
     ·exact absurd ⟨t,by omega⟩ z
   obtain⟨t,ht⟩:=this
   have h0:=Zhm (ZH h t)
   cases m with
   |zero=>omega
   |succ m =>
    obtain⟨n,hn⟩:=Zg5 m (ZH h t) (by omega)
    exact⟨t+n,by rw[Vd];exact hn⟩
theorem ZcD {l:List Int} (h:Zj l):∃n,Row (mIt n l)/\∀j,j<n->¬Row (mIt j l):=by
 obtain⟨n,hn⟩:=Zg5 _ h (ZlY _)
 have key:∀n,Row (mIt n l)->∃n,Row (mIt n l)/\∀j,j<n->¬Row (mIt j l):=by
  intro n
  induction n using Nat.strongRecOn with
  |ind n ih =>
   intro hr
   by_cases c:∃j,j<n/\Row (mIt j l)
   ·obtain⟨j,hj,hr'⟩:=c
    exact ih j hj hr'
   ·exact⟨n,hr,fun j hj hr'=>c ⟨j,hj,hr'⟩⟩
 exact key n hn
theorem ZhL {l m:List Int} (hl:l.length=m.length) (h:∀i,i<l.length->l.getD i 0=m.getD i 0):l=m:=by
 refine Znr hl fun i h1 h2=>?_
 have:=h i h1
 rw[ZlS,ZlS,ZlU h1,ZlU h2] at this
 exact this
noncomputable def ZcX (a:List Int) (t:Nat):List Int:=(List.range a.length).map fun(i:Nat)=>a.getD ((i+t)%a.length) 0
theorem UL (a:List Int) (t:Nat):(ZcX a t).length=a.length:=by simp[ZcX]
theorem UM {a:List Int}{t i:Nat} (h:i<a.length):(ZcX a t).getD i 0=a.getD ((i+t)%a.length) 0:=by simp[ZcX,h]
end L2
namespace My
open L2
noncomputable def tab (n:Nat) (f:Nat->Int):List Int:=(List.range n).map f
theorem V2 (n:Nat) (f:Nat->Int):(tab n f).length=n:=by simp[tab]
theorem Zby {n:Nat}{f:Nat->Int}{x:Nat} (h:x<n):(tab n f).getD x 0=f x:=by
 rw[ZlS,tab,Zmm,Zmr h];rfl
theorem Zbz {n:Nat}{f:Nat->Int}{l:List Int} (hl:l.length=n) (h:∀x,x<n->l.getD x 0=f x):l=tab n f:=by
 apply Znr
 ·rw[hl,V2]
 ·intro i h1 h2
  have:=h i (by omega)
  rw[ZlS,ZlU h1] at this
  simp only[tab,List.getElem_map,List.getElem_range]
  exact this
theorem getD_set {l:List Int}{j x:Nat}{v:Int} (h:j<l.length):(l.set j v).getD x 0=if x=j then v else l.getD x 0:=by
 rw[ZlS,ZlS]
 by_cases e:x=j
 ·subst e;rw[Zmo h,if_pos rfl];rfl
 ·rw[Zmt (Ne.symm e),if_neg e]
theorem Qj {n:Nat}{f g:Nat->Int} (h:∀x,x<n->f x=g x):tab n f=tab n g:=Zbz (V2 _ _) fun x hx=>by rw[Zby hx,h x hx]
structure Zim (ns:List Int):Prop where
 lo:2<=ns.length
 hi:ns.length<=24
 nn:∀x∈ns,0<=x
 sm:ns.sum<=10^60
theorem sum_nn:∀{l:List Int},(∀x∈l,0<=x)->0<=l.sum
 |[],_=>by simp
 |a::l,h=>by
  have:=sum_nn (l:=l) fun x hx=>h x (by simp[hx])
  have:=h a (by simp)
  simp only[Zmg];omega
noncomputable def Zid (ns:List Int) (p:Int) (x:Nat):Int:=(if (x:Int)=p then 0 else ns.getD x 0)+ns.getD p.toNat 0/ns.length
noncomputable def Zia (n:Int) (p:Int) (i:Int) (x:Nat):Int:=if 1<=((x:Int)-p)%n/\((x:Int)-p)%n<=i then 1 else 0
noncomputable def Zib (ns:List Int) (p:Int) (i:Int) (x:Nat):Int:=Zid ns p x+Zia ns.length p i x
noncomputable def Zic (ns:List Int) (p:Int):List Int:=tab ns.length (Zib ns p (ns.getD p.toNat 0%ns.length))
noncomputable def ZhZ (ns:List Int) (p:Int):Int:=(p+ns.getD p.toNat 0%ns.length)%ns.length
section
end
noncomputable def run (f:Nat->Int):Nat->Nat->Nat
 |0,i=>i
 |k+1,i=>if 0<f i then run f k (i+1) else i
section
end
noncomputable def Zh8 (a:List Int×Int):List Int×Int:=(Zic a.1 a.2,ZhZ a.1 a.2)
noncomputable def its {α:Type} (f:α->α):Nat->α->α
 |0,a=>a
 |n+1,a=>f (its f n a)
section
end
end My
namespace My
open PySem L2
end My
namespace L2
end L2
namespace My
open L2
noncomputable def Jw (ns:List Int) (k:Int):List Int:=tab ns.length fun x=>ns.getD (((x:Int)-k)%ns.length).toNat 0
@[simp] theorem JO (ns:List Int) (k:Int):(Jw ns k).length=ns.length:=V2 _ _
theorem Qh {ns:List Int}{k y:Int} (h0:0<=y) (h1:y<ns.length):(Jw ns k).getD y.toNat 0=ns.getD ((y-k)%ns.length).toNat 0:=by
 unfold Jw
 rw[Zby (by omega)]
 congr 3
 omega
theorem Qi (ns:List Int) (k l:Int):Jw (Jw ns k) l=Jw ns (k+l):=by
 show tab (Jw ns k).length _=_
 rw[JO]
 refine Qj fun x hx=>?_
 have hn:(0:Int)<ns.length:=by omega
 rw[Qh (ZmI _ (by omega)) (Zm6 _ hn)]
 rw[Int.emod_sub_emod,show (x:Int)-l-k=x-(k+l) by omega]
theorem Zbs (ns:List Int) (k:Int):Jw ns (k%ns.length)=Jw ns k:=by
 refine Qj fun x hx=>?_
 rw[Int.sub_emod_emod]
theorem V0 (ns:List Int):Jw ns 0=ns:=by
 refine(Zbz rfl fun x hx=>?_).symm
 rw[Int.sub_zero,Int.emod_eq_of_lt (by omega) (by omega),Zm8]
noncomputable def ZgU (a:List Int×Int) (s:Nat):Int:=((its Zh8 s a).2-a.2)%a.1.length
def isT (a:List Int×Int) (s:Nat):Prop:=(its Zh8 s a).1=Jw a.1 (ZgU a s)
noncomputable instance (a:List Int×Int) (s:Nat):Decidable (isT a s):=by unfold isT;infer_instance
theorem ZaS (ns:List Int):Jw ns ns.length=ns:=by
 rw[<- Zbs,Int.emod_self,V0]
noncomputable def VS (ns:List Int):Nat:=(((List.range ns.length).find? fun(i:Nat)=>decide (Jw ns ((i:Int)+1)=ns)).getD 0)+1
theorem Qs {ns:List Int} (h:0<ns.length):Jw ns (VS ns)=ns/\VS ns<=ns.length/\∀j:Nat,j+1<VS ns->Jw ns ((j:Int)+1)≠ns:=by
 cases hf:(List.range ns.length).find? fun(i:Nat)=>decide (Jw ns ((i:Int)+1)=ns) with
 |none =>
  have:=List.find?_eq_none.mp hf (ns.length-1) (Zmp.mpr (by omega))
  rw[show ((ns.length-1:Nat):Int)+1=ns.length by omega,ZaS] at this
  simp at this
 |some i =>
  have h1:=List.find?_range_eq_some.mp hf
  have e:VS ns=i+1:=by unfold VS;rw[hf];rfl
  rw[e]
  refine⟨by simpa using h1.1,by have:=Zmp.mp h1.2.1;omega,fun j hj=>?_⟩
  have:=h1.2.2 j (by omega)
  simpa using this
end My
namespace My
open PySem L2
noncomputable def Qd (l:List Int):List Int:=(List.range (kN l.sum+1)).map fun(i:Nat)=>adI l (kN l.sum) i
theorem Qb (l:List Int):(Qd l).length=kN l.sum+1:=by unfold Qd;simp
theorem VY {l:List Int}{i:Nat} (h:i<=kN l.sum):(Qd l).getD i 0=adI l (kN l.sum) i:=by
 unfold Qd
 rw[ZlS,Zmm,Zmr (by omega)];rfl
def Wide (ns:List Int):Prop:=∀x∈ns,0<=x/\x<=10^60
end My
namespace L2
end L2
namespace My
open L2
end My
namespace L2
open PySem PySem.Spec PyProof.Rows
section
end
noncomputable def frz (m:Md):Md:=if m=.O\/m=.T then .S else m
section
end
end L2
namespace My
open L2
theorem ZcW (a:List Int) (t:Nat):Jw a (-(t:Int))=ZcX a t:=by
 refine ZhL (by rw[JO,UL]) fun i hi=>?_
 rw[JO] at hi
 have:=Qh (ns:=a) (k:=-(t:Int)) (y:=(i:Int)) (by omega) (by omega)
 rw[Zm8] at this
 rw[this,UM hi,show ((i:Int) - -(t:Int))=((i+t:Nat):Int) by omega,<- Int.natCast_emod,Zm8]
theorem Ze1 {a:List Int} (h:0<a.length):1<=VS a/\VS a<=a.length/\ZcX a (VS a)=a/\∀j:Nat,1<=j->j<VS a->ZcX a j≠a:=by
 obtain⟨o1,o2,o3⟩:=Qs h
 have inv:∀j:Nat,ZcX a j=a ↔ Jw a j=a:=fun j=>by
  rw[<- ZcW]
  constructor
  ·intro e
   have:=congrArg (fun x=>Jw x (j:Int)) e
   simp only[Qi] at this
   rw[show -(j:Int)+j=0 by omega,V0] at this
   exact this.symm
  ·intro e
   have:=congrArg (fun x=>Jw x (-(j:Int))) e
   simp only[Qi] at this
   rw[show (j:Int) + -(j:Int)=0 by omega,V0] at this
   exact this.symm
 refine⟨by unfold VS;omega,o2,(inv _).mpr o1,fun j h1 h2 e=>?_⟩
 have:=o3 (j-1) (by omega)
 apply this
 rw[show ((j-1:Nat):Int)+1=(j:Int) by omega]
 exact(inv j).mp e
end My
namespace L2
def Qn (c:Nat) (l:List Int):Prop:=∀i,c<=i->l.getD (i+1) 0<=l.getD i 0
theorem ZcZ {c:Nat}{l:List Int} (h:Qn (c+1) l):Qn c (Zz l):=fun i hi=>by
 rw[ZV,ZV]
 have:=h (i+1) (by omega)
 split<;>split<;>omega
theorem ZbG {l:List Int}:∀n c,Qn (n+c) l->Qn c (mIt n l)
 |0,c,h=>by rw[Znd] at h;exact h
 |n+1,c,h=>ZcZ (ZbG n (c+1) (by rw[show n+(c+1)=n+1+c by omega];exact h))
theorem Qn.up {c d:Nat}{l:List Int} (h:Qn c l) (hd:c<=d):Qn d l:=fun i hi=>h i (by omega)
theorem Qr {l:List Int} (h:Qn 0 l) (n:Nat):Qn 0 (mIt n l):=ZbG n 0 (h.up (Zm9 _))
theorem ZfF {l:List Int} (h:Qn 0 l) {j:Nat}:∀d,l.getD (j+d) 0<=l.getD j 0
 |0=>ZmY _
 |d+1=>Znm (h (j+d) (Zm9 _)) (ZfF h d)
def Lv (M:Nat) (l:List Int):Prop:=∀i:Nat,0<l.getD i 0->l.getD i 0+i<=M
theorem Zdu {M:Nat}{l:List Int} (ok:Zj l) (h:Lv M l):Lv M (Zz l):=fun i hp=>by
 have h1:=h (i+1)
 have h0:=h 0
 have n1:=Zw ok.1 (i+1)
 have n0:=Zw ok.1 0
 rw[ZV] at hp ⊢
 split at hp
 ·by_cases c:0<l.getD (i+1) 0
  ·have:=h1 c
   omega
  ·have:=h0 (by omega)
   omega
 ·have:=h1 (by omega)
  omega
theorem Vr {M:Nat}{l:List Int} (ok:Zj l) (h:Lv M l):∀n,Lv M (mIt n l)
 |0=>h
 |n+1=>Zdu (ZH ok n) (Vr ok h n)
def Tp (M:Nat) (l:List Int) (i:Nat):Prop:=0<l.getD i 0/\l.getD i 0+i=M
noncomputable instance (M:Nat) (l:List Int) (i:Nat):Decidable (Tp M l i):=by unfold Tp;infer_instance
theorem Tp.lt {M:Nat}{l:List Int}{i:Nat} (h:Tp M l i):i<M:=by have:=h.1;have:=h.2;omega
theorem UH {M i:Nat}{l:List Int} (ok:Zj l) (h:Lv M l) (ht:Tp M (Zz l) i):(i+1<M/\Tp M l (i+1))\/(i+1=M/\Tp M l 0):=by
 obtain⟨t1,t2⟩:=ht
 have h1:=h (i+1)
 have h0:=h 0
 have n1:=Zw ok.1 (i+1)
 have n0:=Zw ok.1 0
 rw[ZV] at t1 t2
 unfold Tp
 by_cases c:0<l.getD (i+1) 0
 ·have:=h1 c
  split at t2
  ·exact .inl ⟨by omega,c,by omega⟩
  ·omega
 ·split at t2
  ·have:=h0 (by omega)
   exact .inr ⟨by omega,by omega,by omega⟩
  ·omega
theorem Zbw {M:Nat}{l:List Int} (ok:Zj l) (h:Lv M l):∀t i,Tp M (mIt t l) i->Tp M l ((i+t)%M)
 |0,i,ht=>by rw[Znc,Zmw ht.lt];exact ht
 |t+1,i,ht=>by
  rcases UH (ZH ok t) (Vr ok h t) ht with ⟨_,z⟩|⟨e,z⟩
  ·have:=Zbw ok h t _ z
   rwa [show i+1+t=i+(t+1) by omega] at this
  ·have:=Zbw ok h t _ z
   rwa [show i+(t+1)=t+M by omega,ZmJ,<- Znd t]
theorem Ud (v:Int) (m:Nat):∀n,m<=n->((List.range n).map fun i=>if i<m then v else 0).sum=m*v
 |0,h=>by
  obtain rfl:m=0:=by omega
  simp
 |n+1,h=>by
  rw[Zmi,Zme,Zmj]
  simp only[Zmd,Zmn,Zmg,Zmy]
  by_cases c:m<=n
  ·rw[Ud v m n c,if_neg (by omega)];omega
  ·obtain rfl:m=n+1:=by omega
   have e:((List.range n).map fun i=>if i<n+1 then v else 0).sum=((List.range n).map fun i=>if i<n then v else 0).sum:=Z2 fun i hi=>by rw[if_pos (by omega),if_pos hi]
   rw[e,Ud v n n (ZlY _),if_pos (by omega),show ((n+1:Nat):Int)=(n:Int)+1 by omega,ZmB,ZmD]
   omega
theorem Zan {l:List Int} (ok:Zj l) (h:Qn 0 l) (p:Nat):((p+1:Nat):Int)*l.getD p 0<=l.sum:=by
 rw[<- Qm (l:=l) (n:=p+1+l.length) (by omega),<- Ud (l.getD p 0) (p+1) (p+1+l.length) (by omega)]
 refine Zx _ fun i hi=>?_
 split
 ·have:=ZfF h (j:=i) (p-i)
  rwa [show i+(p-i)=p by omega] at this
 ·exact Zw ok.1 i
theorem ZeQ {M:Nat}{l:List Int} (ok:Zj l) (hq:Qn 0 l) (hv:Lv M l) (hM:20<=M):Lv (M-1) (mIt M l):=fun i hp=>by
 have hle:=Vr ok hv M i hp
 apply Classical.byContradiction
 intro hn
 have ht:Tp M (mIt M l) i:=⟨hp,by omega⟩
 have hi:=ht.lt
 have hs:=ZmZ (M/2+M-i) (show 0<M by omega)
 have e:M-(M/2+M-i)%M+(M/2+M-i)%M=M:=by omega
 rw[<- e,Vd] at ht
 have h2:=Zbw (ZH ok _) (Vr ok hv _) _ _ (by rw[e] at ht;exact ht)
 rw[Nat.add_mod_mod,show i+(M/2+M-i)=M/2+M by omega,ZmJ,Zmw (show M/2<M by omega)] at h2
 have h3:=Zan (ZH ok (M-(M/2+M-i)%M)) (Qr hq _) (M/2)
 have h4:=(ZH ok (M-(M/2+M-i)%M)).2.2.1
 have h5:=h2.2
 generalize (mIt (M-(M/2+M-i)%M) l)=k at h3 h4 h5
 have h6:=Nat.mul_le_mul (show 11<=M/2+1 by omega) (show 10<=M-M/2 by omega)
 have h7:k.getD (M/2) 0=((M-M/2:Nat):Int):=by omega
 rw[h7,<- Int.natCast_mul] at h3
 omega
noncomputable def s1N:Nat->Nat
 |0=>0
 |d+1=>s1N d+(20+d)
theorem ZdW:∀(d:Nat) {l:List Int},Zj l->Qn 0 l->Lv (19+d) l->∃t,t<=s1N d/\Lv 19 (mIt t l)
 |0,l,_,_,h=>⟨0,ZlY _,h⟩
 |d+1,l,ok,hq,h=>by
  have h1:=ZeQ ok hq h (by omega)
  obtain⟨t,ht,hl⟩:=ZdW d (ZH ok (19+(d+1))) (Qr hq _) (by rw[show 19+(d+1)-1=19+d by omega] at h1;exact h1)
  exact⟨19+(d+1)+t,by simp only[s1N];omega,by rw[Vd];exact hl⟩
theorem Zgf {l:List Int} (ok:Zj l) (h:Qn 0 l):Lv 100 l:=fun i hp=>by
 have h1:=Zan ok h i
 have h2:=ok.2.2.1
 have h3:0<=(i:Int)*(l.getD i 0-1):=Int.mul_nonneg (by omega) (by omega)
 rw[Int.mul_sub,ZmK] at h3
 rw[show ((i+1:Nat):Int)=(i:Int)+1 by omega,ZmB,ZmD] at h1
 show l.getD i 0+i<=((100:Nat):Int)
 omega
def Ho (M:Nat) (l:List Int) (i:Nat):Prop:=i+2<=M/\l.getD i 0+i+1<M
theorem Zb7 {l:List Int} (h:Zj l) {D:Nat} (bd:∀i,i<=D->0<=adI l D i/\adI l D i<=1) (zz:∀i,D<i->l.getD i 0=0):Row l:=by
 have hlen:l.length<=D+1:=VF h fun i hi=>zz i (by omega)
 have hsum:l.sum=tri D+((List.range (D+1)).map fun(i:Nat)=>adI l D i).sum:=by
  rw[<- Qm hlen,<- Uc D,<- ZD]
  exact Z2 fun i _=>by unfold adI;omega
 have s0:=Zx (f:=fun _=>0) (g:=fun(i:Nat)=>adI l D i) (D+1) (fun i hi=>(bd i (by omega)).1)
 rw[ZL] at s0
 have s1:=Zx (f:=fun(i:Nat)=>adI l D i) (g:=fun _=>1) (D+1) (fun i hi=>(bd i (by omega)).2)
 rw[ZL] at s1
 by_cases c:((List.range (D+1)).map fun(i:Nat)=>adI l D i).sum<=D
 ·refine Zag.row (k:=D) ⟨by omega,by rw[tri];omega,bd,zz⟩
 ·have hall:∀i,i<D+1->1-adI l D i=0:=by
   refine Jd (f:=fun(i:Nat)=>1-adI l D i) (D+1) (fun i hi=>by have:=(bd i (by omega)).2;omega) ?_
   have:=ZD (fun(i:Nat)=>1-adI l D i) (fun(i:Nat)=>adI l D i) (D+1)
   rw[show ((List.range (D+1)).map fun(i:Nat)=>1-adI l D i+adI l D i).sum=((List.range (D+1)).map fun _=>(1:Int)).sum from Z2 fun i _=>by omega,ZL] at this
   omega
  refine Zag.row (k:=D+1) ⟨by rw[tri];omega,by rw[tri,tri];omega,fun i hi=>?_,fun i hi=>zz i (by omega)⟩
  by_cases e:i=D+1
  ·subst e
   unfold adI
   rw[zz _ (by omega)]
   omega
  ·have:=hall i (by omega)
   unfold adI at this ⊢
   omega
theorem Zch {M:Nat}{l:List Int} (ok:Zj l) (hv:Lv M l) (hM:1<=M) (hn:∀i,¬Ho M l i):Row l:=by
 refine Zb7 ok (D:=M-1) (fun i hi=>?_) fun i hi=>?_
 ·have h1:=hv i
  have h2:=hn i
  have h3:=Zw ok.1 i
  unfold Ho at h2
  unfold adI
  by_cases c:i+2<=M
  ·have h4:¬(l.getD i 0+i+1<M):=fun z=>h2 ⟨c,z⟩
   refine⟨by omega, ?_⟩
   by_cases q:0<l.getD i 0
   ·have:=h1 q;omega
   ·omega
  ·refine⟨by omega, ?_⟩
   by_cases q:0<l.getD i 0
   ·have:=h1 q;omega
   ·omega
 ·have h1:=hv i
  have h3:=Zw ok.1 i
  apply Classical.byContradiction
  intro z
  have:=h1 (by omega)
  omega
theorem Zii (d a b:Nat) (ha:a<=d+1) (hb:b<=d):∃t,t%(d+2)=a/\t%(d+1)=b/\t<=(d+2)*(d+1):=by
 obtain⟨t,h1,h2⟩:=crt d a b ha hb
 refine⟨t%((d+2)*(d+1)), ?_, ?_,Zns (ZmZ _ (Nat.mul_pos (by omega) (by omega)))⟩
 ·rw[Nat.mod_mul_right_mod,h1]
 ·rw[Nat.mod_mul_left_mod,h2]
theorem Zig {d:Nat}{l:List Int} (ok:Zj l) (hq:Qn 0 l) (hv:Lv (d+2) l) {i0 j0:Nat} (hT:Tp (d+2) l i0) (hH:Ho (d+2) l j0) :
  ∃t,t<(d+2)*(d+1)/\∃i,i+1<d+2/\Tp (d+2) (mIt t l) (i+1)/\¬Tp (d+2) (mIt (t+1) l) i:=by
 apply Classical.byContradiction
 intro hno
 have nf:∀t,t<(d+2)*(d+1)->∀i,i+1<d+2->Tp (d+2) (mIt t l) (i+1)->Tp (d+2) (mIt (t+1) l) i:=fun t ht i hi h=>by
  apply Classical.byContradiction
  intro z
  exact hno ⟨t,ht,i,hi,h,z⟩
 have tt:∀t,t<=(d+2)*(d+1)->∀i,i<d+2->(i+t)%(d+2)=i0->Tp (d+2) (mIt t l) i:=by
  intro t
  induction t with
  |zero =>
   intro _ i hi e
   rw[Znc,Zmw hi] at e
   rw[e];exact hT
  |succ t ih =>
   intro ht i hi e
   by_cases c:i+1<d+2
   ·exact nf t (by omega) i c (ih (by omega) (i+1) c (by rw[show i+1+t=i+(t+1) by omega];exact e))
   ·obtain rfl:i=d+1:=by omega
    rw[show d+1+(t+1)=0+t+(d+2) by omega,ZmJ] at e
    have h0:=ih (by omega) 0 (by omega) e
    have hl:=Vr ok hv t (d+2)
    have hn:=Zw (ZH ok t).1 (d+2)
    have h1:=h0.2
    have h2:(mIt (t+1) l).getD (d+1) 0=1:=by
     show (Zz (mIt t l)).getD (d+1) 0=1
     rw[ZV,if_pos (by omega),show d+1+1=d+2 from rfl]
     by_cases z:0<(mIt t l).getD (d+2) 0
     ·have:=hl z;omega
     ·omega
    exact⟨by rw[h2];omega,by rw[h2];omega⟩
 have hh:∀t,t<=(d+2)*(d+1)->∀j,j<=d->(j+t)%(d+1)=j0->Ho (d+2) (mIt t l) j:=by
  intro t
  induction t with
  |zero =>
   intro _ j hj e
   rw[Znc,Zmw (by omega)] at e
   rw[e];exact hH
  |succ t ih =>
   intro ht j hj e
   refine⟨by omega, ?_⟩
   show (Zz (mIt t l)).getD j 0+j+1<_
   rw[ZV]
   by_cases c:j+1<=d
   ·have:=(ih (by omega) (j+1) c (by rw[show j+1+t=j+(t+1) by omega];exact e)).2
    split<;>omega
   ·obtain rfl:j=d:=by omega
    rw[show j+(t+1)=0+t+(j+1) by omega,ZmJ] at e
    have h0:=(ih (by omega) 0 (by omega) e).2
    have hl:=Vr ok hv t (j+1)
    have hn:=Zw (ZH ok t).1 (j+1)
    have hn0:=Zw (ZH ok t).1 0
    rw[if_neg (by omega)]
    by_cases z:0<(mIt t l).getD (j+1) 0
    ·have h1:=hl z
     have h2:=nf t (by omega) j (by omega) ⟨z,by omega⟩
     have h3:=h2.2
     have h4:(mIt (t+1) l).getD j 0=(mIt t l).getD (j+1) 0:=by
      show (Zz (mIt t l)).getD j 0=_
      rw[ZV,if_neg (by omega)];omega
     omega
    ·omega
 have hi0:=hT.lt
 have hj0:=hH.1
 obtain⟨t,t1,t2,t3⟩:=Zii d ((i0+(d+1))%(d+2)) j0 (by have:=ZmZ (i0+(d+1)) (show 0<d+2 by omega);omega) (by omega)
 have a1:=tt t t3 1 (by omega) (by
  rw[<- Nat.add_mod_mod,t1,Nat.add_mod_mod,show 1+(i0+(d+1))=i0+(d+2) by omega,ZmJ,Zmw hi0])
 have a2:=hh t t3 0 (by omega) (by rw[Znd];exact t2)
 have a3:(mIt t l).getD 1 0<=(mIt t l).getD 0 0:=Qr hq t 0 (Zm9 _)
 have:=a1.2
 have:=a2.2
 omega
noncomputable def cnT (M:Nat) (l:List Int):Int:=((List.range M).map fun i=>if Tp M l i then (1:Int) else 0).sum
theorem Zhr (M:Nat) (l:List Int):0<=cnT M l:=by
 have:=Zx (f:=fun _=>0) (g:=fun i=>if Tp M l i then (1:Int) else 0) M (fun i _=>by split<;>omega)
 rw[ZL] at this
 unfold cnT
 omega
theorem ZaN {m:Nat}{l:List Int} (ok:Zj l) (hv:Lv (m+1) l):cnT (m+1) (Zz l)<=cnT (m+1) l/\((∃i,i<m/\Tp (m+1) l (i+1)/\¬Tp (m+1) (Zz l) i)->cnT (m+1) (Zz l)<cnT (m+1) l):=by
 have e1:cnT (m+1) l=(if Tp (m+1) l 0 then (1:Int) else 0)+((List.range m).map fun i=>if Tp (m+1) l (i+1) then (1:Int) else 0).sum:=Js _ m
 have e2:cnT (m+1) (Zz l)=((List.range m).map fun i=>if Tp (m+1) (Zz l) i then (1:Int) else 0).sum+(if Tp (m+1) (Zz l) m then (1:Int) else 0):=by
  unfold cnT
  rw[Zmi,Zme,Zmj]
  simp
 have e3:=ZD (fun i=>if Tp (m+1) (Zz l) i then (1:Int) else 0) (fun i=>(if Tp (m+1) l (i+1) then (1:Int) else 0)-if Tp (m+1) (Zz l) i then (1:Int) else 0) m
 rw[Z2 (g:=fun i=>if Tp (m+1) l (i+1) then (1:Int) else 0) (fun i _=>by omega)] at e3
 have l0:(if Tp (m+1) (Zz l) m then (1:Int) else 0)<=if Tp (m+1) l 0 then (1:Int) else 0:=by
  by_cases c:Tp (m+1) (Zz l) m
  ·rcases UH ok hv c with ⟨z,_⟩|⟨_,z⟩
   ·omega
   ·rw[if_pos c,if_pos z];omega
  ·rw[if_neg c];split<;>omega
 have l1:∀i,i<m->0<=(if Tp (m+1) l (i+1) then (1:Int) else 0)-if Tp (m+1) (Zz l) i then (1:Int) else 0:=fun i hi=>by
  by_cases c:Tp (m+1) (Zz l) i
  ·rcases UH ok hv c with ⟨_,z⟩|⟨z,_⟩
   ·rw[if_pos c,if_pos z];omega
   ·omega
  ·rw[if_neg c];split<;>omega
 have l2:=Zx (f:=fun _=>0) (g:=fun i=>(if Tp (m+1) l (i+1) then (1:Int) else 0)-if Tp (m+1) (Zz l) i then (1:Int) else 0) m l1
 rw[ZL] at l2
 refine⟨by omega,fun⟨i,hi,h1,h2⟩=>?_⟩
 apply Classical.byContradiction
 intro hn
 have:=Jd m l1 (by omega) i hi
 rw[if_pos h1,if_neg h2] at this
 omega
theorem ZcE {m:Nat}{l:List Int} (ok:Zj l) (hv:Lv (m+1) l):∀t,cnT (m+1) (mIt t l)<=cnT (m+1) l
 |0=>ZmY _
 |t+1=>Znm (ZaN (ZH ok t) (Vr ok hv t)).1 (ZcE ok hv t)
noncomputable def rsN (f:Nat->Int) (M:Nat):Nat->Int
 |0=>0
 |k+1=>rsN f M k+f (M-k-1)
theorem Zey (f:Nat->Int) (M:Nat):∀k,k<=M->rsN f M k+((List.range (M-k)).map f).sum=((List.range M).map f).sum
 |0,_=>by simp[rsN]
 |k+1,h=>by
  have:=Zey f M k (by omega)
  rw[show M-k=(M-k-1)+1 by omega,Zmi,Zme,Zmj] at this
  simp only[Zmd,Zmn,Zmg,Zmy] at this
  simp only[rsN]
  rw[show M-(k+1)=M-k-1 by omega]
  omega
theorem Zg6 {M:Nat}{l:List Int} (ok:Zj l) (hq:Qn 0 l) (hv:Lv M l):cnT M l<=M/\2*(cnT M l*M)<=2*l.sum+cnT M l*(cnT M l-1):=by
 have key:∀k,k<=M->rsN (fun i=>if Tp M l i then (1:Int) else 0) M k<=k/\rsN (fun i=>if Tp M l i then (1:Int) else 0) M k<=l.getD (M-k) 0/\0<=rsN (fun i=>if Tp M l i then (1:Int) else 0) M k /\
   2*(rsN (fun i=>if Tp M l i then (1:Int) else 0) M k*k)<=2*rsN (fun i=>l.getD i 0) M k+rsN (fun i=>if Tp M l i then (1:Int) else 0) M k*(rsN (fun i=>if Tp M l i then (1:Int) else 0) M k-1):=by
  intro k
  induction k with
  |zero=>intro _;simp only[rsN];exact⟨by omega,by have:=Zw ok.1 (M-0);omega,by omega,by simp⟩
  |succ k ih =>
   intro hk
   obtain⟨i1,i2,i3,i4⟩:=ih (by omega)
   simp only[rsN]
   generalize rsN (fun i=>if Tp M l i then (1:Int) else 0) M k=c at *
   generalize rsN (fun i=>l.getD i 0) M k=s at *
   rw[show M-(k+1)=M-k-1 by omega]
   have hd:l.getD (M-k) 0<=l.getD (M-k-1) 0:=by
    have:=hq (M-k-1) (Zm9 _)
    rwa [show M-k-1+1=M-k by omega] at this
   rw[show ((k+1:Nat):Int)=(k:Int)+1 by omega]
   by_cases t:Tp M l (M-k-1)
   ·rw[if_pos t]
    have h2:=t.2
    have ha:l.getD (M-k-1) 0=(k:Int)+1:=by omega
    rw[ha]
    refine⟨by omega,by omega,by omega, ?_⟩
    simp only[ZmL,ZmB,ZmK,ZmD,Int.mul_sub,Int.sub_mul] at i4 ⊢
    omega
   ·rw[if_neg t]
    refine⟨by omega,by omega,by omega, ?_⟩
    simp only[ZmL,ZmB,ZmK,ZmD,Int.mul_sub,Int.sub_mul,Int.add_zero,Int.mul_zero,Int.zero_mul] at i4 ⊢
    omega
 obtain⟨k1,_,_,k4⟩:=key M (ZlY _)
 have r1:=Zey (fun i=>if Tp M l i then (1:Int) else 0) M M (ZlY _)
 have r2:=Zey (fun i=>l.getD i 0) M M (ZlY _)
 rw[Nat.sub_self] at r1 r2
 simp only[List.range_zero,Zmn,Zmy,Int.add_zero] at r1 r2
 have hs:((List.range M).map fun(i:Nat)=>l.getD i 0).sum=l.sum:=Qm (VF ok fun i hi=>by
  have h1:=hv i
  have h3:=Zw ok.1 i
  apply Classical.byContradiction
  intro z
  have:=h1 (by omega)
  omega)
 rw[r1,r2,hs] at k4
 rw[r1] at k1
 exact⟨k1,k4⟩
theorem Zge {M:Nat}{l:List Int} (ok:Zj l) (hv:Lv M l):l.sum<=tri M:=by
 have hz:∀i,M<=i->l.getD i 0=0:=fun i hi=>by
  have h1:=hv i
  have h3:=Zw ok.1 i
  apply Classical.byContradiction
  intro z
  have:=h1 (by omega)
  omega
 rw[<- Qm (n:=M+1) (VF ok fun i hi=>hz i (by omega)),<- Uc M]
 refine Zx _ fun i hi=>?_
 have h1:=hv i
 by_cases z:0<l.getD i 0
 ·have:=h1 z;omega
 ·omega
noncomputable def cmA (n M:Nat):Nat->Nat
 |0=>0
 |k+1=>if 2*((k+1)*M)<=2*n+(k+1)*k then k+1 else cmA n M k
theorem Zek {n M c:Nat} (h:2*(c*M)<=2*n+c*(c-1)):∀k,c<=k->c<=cmA n M k
 |0,hk=>by simp only[cmA];omega
 |k+1,hk=>by
  simp only[cmA]
  split
  ·omega
  ·rename_i z
   by_cases e:c=k+1
   ·subst e;exact absurd h z
   ·exact Zek h k (by omega)
noncomputable def Zf2:Nat->Nat
 |0=>0
 |k+1=>Zf2 k+(k+1)
theorem Zbv:∀k,((Zf2 k:Nat):Int)=tri k
 |0=>rfl
 |k+1=>by simp only[Zf2,tri];have:=Zbv k;omega
noncomputable def ZfA (n:Nat):Nat->Nat
 |0=>0
 |M+1=>if Zf2 (M+1)<n then 0 else cmA n (M+1) (M+1)*((M+1)*M)+ZfA n M
theorem ZbN:∀(M:Nat) {l:List Int},Zj l->Qn 0 l->Lv M l->∃t,t<=ZfA l.sum.toNat M/\Row (mIt t l)
 |0,l,ok,hq,hv=>⟨0,Zm9 _,Zch (M:=1) (l:=l) ok (fun i hp=>by have:=hv i hp;omega) (ZlY _) fun i z=>by have:=z.1;omega⟩
 |M+1,l,ok,hq,hv=>by
  have hsn:0<=l.sum:=sum_nn ok.1
  have h0:¬Zf2 (M+1)<l.sum.toNat:=by
   have h1:=Zge ok hv
   have h2:=Zbv (M+1)
   omega
  simp only[ZfA]
  rw[if_neg h0]
  have inner:∀(c:Nat) {k:List Int},k.sum=l.sum->Zj k->Qn 0 k->Lv (M+1) k->cnT (M+1) k<=c->∃t,t<=c*((M+1)*M)+ZfA l.sum.toNat M/\Row (mIt t k):=by
   intro c
   induction c with
   |zero =>
    intro k hs ok hq hv hc
    have hl:Lv M k:=fun i hp=>by
     have h1:=hv i hp
     apply Classical.byContradiction
     intro z
     have ht:Tp (M+1) k i:=⟨hp,by omega⟩
     have:=Jd (f:=fun i=>if Tp (M+1) k i then (1:Int) else 0) (M+1) (fun i _=>by split<;>omega) hc i ht.lt
     rw[if_pos ht] at this
     omega
    obtain⟨t,ht,hr⟩:=ZbN M ok hq hl
    exact⟨t,by rw[hs] at ht;omega,hr⟩
   |succ c ih =>
    intro k hs ok hq hv hc
    by_cases hh:∃j,Ho (M+1) k j
    ·obtain⟨j,hj⟩:=hh
     by_cases ht:∃i,Tp (M+1) k i
     ·obtain⟨i,hi⟩:=ht
      obtain⟨d,rfl⟩:∃d,M=d+1:=⟨M-1,by have:=hj.1;omega⟩
      obtain⟨t,t1,i',i1,i2,i3⟩:=Zig ok hq hv hi hj
      have f1:=(ZaN (m:=d+1) (ZH ok t) (Vr ok hv t)).2 ⟨i',by omega,i2,i3⟩
      have f2:=ZcE (m:=d+1) ok hv t
      obtain⟨u,u1,u2⟩:=ih (k:=mIt (t+1) k) (by rw[Zcn ok];exact hs) (ZH ok _) (Qr hq _) (Vr ok hv _) (by
       have:cnT (d+1+1) (mIt (t+1) k)<cnT (d+1+1) (mIt t k):=f1
       omega)
      have t1:t<(d+1+1)*(d+1):=t1
      refine⟨t+1+u, ?_,by rw[Vd];exact u2⟩
      rw[Nat.add_mul,Nat.one_mul]
      omega
     ·have hl:Lv M k:=fun i hp=>by
       have h1:=hv i hp
       apply Classical.byContradiction
       intro z
       exact ht ⟨i,hp,by omega⟩
      obtain⟨t,t1,hr⟩:=ZbN M ok hq hl
      exact⟨t,by rw[hs] at t1;omega,hr⟩
    ·exact⟨0,Zm9 _,Zch ok hv (by omega) fun i z=>hh ⟨i,z⟩⟩
  obtain⟨c1,c2⟩:=Zg6 ok hq hv
  have c0:=Zhr (M+1) l
  obtain⟨t,t1,t2⟩:=inner (cnT (M+1) l).toNat rfl ok hq hv (by omega)
  refine⟨t,Zml t1 (Nat.add_le_add_right (Nat.mul_le_mul_right _ ?_) _),t2⟩
  refine Zek ?_ _ (by omega)
  generalize hc:(cnT (M+1) l).toNat=c
  have e:cnT (M+1) l=(c:Int):=by omega
  rw[e] at c2
  cases c with
  |zero=>simp
  |succ c =>
   rw[show ((c+1:Nat):Int)-1=(c:Int) by omega,<- Int.natCast_mul,<- Int.natCast_mul] at c2
   rw[Znl]
   omega
theorem Zg7:((List.range 101).all fun n=>decide (100+s1N 81+ZfA n 19<=20000))=true:=by decide +kernel
theorem Zie {l:List Int} (ok:Zj l):∃t,t<=20000/\Row (mIt t l):=by
 have q0:Qn 0 (mIt 100 l):=ZbG 100 0 fun i hi=>by
  rw[ZM (by have:=ok.2.1;omega),ZM (by have:=ok.2.1;omega)];exact ZmY _
 have ok1:=ZH ok 100
 obtain⟨t,t1,t2⟩:=ZdW 81 ok1 q0 (Zgf ok1 q0)
 have ok2:=ZH ok1 t
 obtain⟨u,u1,u2⟩:=ZbN 19 ok2 (Qr q0 t) t2
 have hs:=ok2.2.2.1
 have h:=of_decide_eq_true (ZmN.mp Zg7 (mIt t (mIt 100 l)).sum.toNat (Zmp.mpr (by omega)))
 exact⟨100+t+u,by omega,by rw[Vd,Vd];exact u2⟩
end L2
namespace L2
open PySem PySem.Spec PyProof.Rows
theorem ZdG {K:W.Frag}{EX:PX->Hp->Prop}{Γ:List Md}{te:TE}{f:List PV->Rr PV}{i:Nat} (hm:Γ[i]?=some .O) (he:DE K EX Γ Γ .P te f):DAF K EX Γ (Γ.set i .U) (UI (Zbl i) (UI te Zet)) (fun ρ=>(f ρ).bind fun y=>.ok [gv i ρ,y]):=fun B H0 H σ ρ F R Q A d=>by
 obtain⟨v,h1,_⟩:=A.getO hm
 refine⟨v,h1,he B H0 H σ ρ F R _ A (d.bind.imp (fun y _ d w H1 s1 r=>?_) fun e q=>q)⟩
 obtain⟨F1,f1,fl,p1,A1⟩:=r
 obtain⟨v',h1',t1⟩:=A1.getO hm
 rw[h1] at h1';cases h1'
 refine(show ∀vs H' F' G,_ from d) [v,w] H1 (Uz F1 i []) (F1 i) s1 (fun j a ha=>f1 j a (UR j a ha)) ?_ (fun a ha=>⟨fun z=>A1.disjR i a ha z,.inr ⟨i,f1 i a ha⟩⟩) (A1.move hm)
 exact⟨v,[w],F1 i,[],rfl,t1,⟨w,[],[],[],rfl,p1.tree fl,⟨rfl,rfl⟩,by simp,rfl⟩,by simp,by simp⟩
end L2
namespace My
open PySem L2
seal PE PT PA PS PSs DE DT DAA DAF DS
noncomputable def top (i:Nat):Stmt:=PySem.Challenge.pw_sowring_k37_whole_comes_to_marching.main.body.getD i (.Pass ⟨0,0,0,0⟩)
noncomputable abbrev ZiM:Stmt:=top 22
theorem ZiF:ZF ["numbers", "way", "many", "line", "more"] ["numbers"] (Zi ZiM):=⟨rfl,rfl,rfl,by decide +kernel,rfl,by decide +kernel,by decide +kernel⟩
theorem Zlu:Z8 "_law_line" ZiM ["numbers"]:=fun _ _ _ _ _ _ us hl=>by obtain⟨_,rfl⟩:=us1 hl;rfl
noncomputable abbrev Zje:Stmt:=top 7
theorem Zlw:ZF ["value"] ["value"] (Zi Zje):=⟨rfl,rfl,rfl,by decide +kernel,rfl,by decide +kernel,by decide +kernel⟩
theorem Zl4:Z8 "is_whole" Zje ["value"]:=fun _ _ _ _ _ _ us hl=>by obtain⟨_,rfl⟩:=us1 hl;rfl
noncomputable abbrev Ziz:Stmt:=top 8
theorem ZkJ:ZF ["value", "least"] ["value", "least"] (Zi Ziz):=⟨rfl,rfl,rfl,by decide +kernel,rfl,by decide +kernel,by decide +kernel⟩
theorem ZkO:Z8 "is_whole_from" Ziz ["value", "least"]:=fun _ _ _ _ _ _ us hl=>by obtain⟨_,_,rfl⟩:=us2 hl;rfl
noncomputable abbrev Zio:Stmt:=top 9
theorem Zjj:ZF ["values"] ["values"] (Zi Zio):=⟨rfl,rfl,rfl,by decide +kernel,rfl,by decide +kernel,by decide +kernel⟩
theorem ZjY:Z8 "is_list_from_nought" Zio ["values"]:=fun _ _ _ _ _ _ us hl=>by obtain⟨_,rfl⟩:=us1 hl;rfl
noncomputable abbrev ZiG:Stmt:=top 10
theorem Zlp:ZF ["line"] ["line"] (Zi ZiG):=⟨rfl,rfl,rfl,by decide +kernel,rfl,by decide +kernel,by decide +kernel⟩
theorem Zk3:Z8 "check_line" ZiG ["line"]:=fun _ _ _ _ _ _ us hl=>by obtain⟨_,rfl⟩:=us1 hl;rfl
noncomputable abbrev Zi0:Stmt:=top 18
theorem Zjn:ZF ["seeds", "k"] ["seeds"] (Zi Zi0):=⟨rfl,rfl,rfl,by decide +kernel,rfl,by decide +kernel,by decide +kernel⟩
theorem ZkP:Z8 "greatest_step" Zi0 ["seeds"]:=fun _ _ _ _ _ _ us hl=>by obtain⟨_,rfl⟩:=us1 hl;rfl
noncomputable abbrev ZiA:Stmt:=top 17
theorem ZiL:ZF ["line", "k", "pits", "added"] ["line"] (Zi ZiA):=⟨rfl,rfl,rfl,by decide +kernel,rfl,by decide +kernel,by decide +kernel⟩
theorem Zkp:Z8 "added_seeds" ZiA ["line"]:=fun _ _ _ _ _ _ us hl=>by obtain⟨_,rfl⟩:=us1 hl;rfl
noncomputable abbrev Zka:Stmt:=top 15
theorem ZkS:ZF ["line", "others"] ["line"] (Zi Zka):=⟨rfl,rfl,rfl,by decide +kernel,rfl,by decide +kernel,by decide +kernel⟩
theorem ZlI:Z8 "march" Zka ["line"]:=fun _ _ _ _ _ _ us hl=>by obtain⟨_,rfl⟩:=us1 hl;rfl
noncomputable abbrev Zjm:Stmt:=top 12
theorem Zk6:ZF ["board", "k", "pits"] ["board", "k"] (Zi Zjm):=⟨rfl,rfl,rfl,by decide +kernel,rfl,by decide +kernel,by decide +kernel⟩
theorem ZlC:Z8 "turn_by" Zjm ["board", "k"]:=fun _ _ _ _ _ _ us hl=>by obtain⟨_,_,rfl⟩:=us2 hl;rfl
noncomputable abbrev Ziu:Stmt:=top 13
theorem Zjk:ZF ["board", "k"] ["board"] (Zi Ziu):=⟨rfl,rfl,rfl,by decide +kernel,rfl,by decide +kernel,by decide +kernel⟩
theorem ZkE:Z8 "turn_to_itself" Ziu ["board"]:=fun _ _ _ _ _ _ us hl=>by obtain⟨_,rfl⟩:=us1 hl;rfl
noncomputable abbrev Zjf:Stmt:=top 19
theorem Zjv:ZF ["line", "tail", "row"] ["line"] (Zi Zjf):=⟨rfl,rfl,rfl,by decide +kernel,rfl,by decide +kernel,by decide +kernel⟩
theorem Zl5:Z8 "comes_to" Zjf ["line"]:=fun _ _ _ _ _ _ us hl=>by obtain⟨_,rfl⟩:=us1 hl;rfl
noncomputable abbrev Zi4:Stmt:=top 21
theorem Zi6:ZF ["script", "many", "found", "step", "k"] ["script", "many"] (Zi Zi4):=⟨rfl,rfl,rfl,by decide +kernel,rfl,by decide +kernel,by decide +kernel⟩
theorem Zlc:Z8 "_law_numbers" Zi4 ["script", "many"]:=fun _ _ _ _ _ _ us hl=>by obtain⟨_,_,rfl⟩:=us2 hl;rfl
noncomputable abbrev Zi1:Stmt:=top 24
theorem Zi8:ZF ["line", "tall", "place", "seeds"] ["line"] (Zi Zi1):=⟨rfl,rfl,rfl,by decide +kernel,rfl,by decide +kernel,by decide +kernel⟩
theorem ZkQ:Z8 "_law_marching" Zi1 ["line"]:=fun _ _ _ _ _ _ us hl=>by obtain⟨_,rfl⟩:=us1 hl;rfl
noncomputable abbrev ZiH:Stmt:=top 23
theorem ZjO:ZF ["line", "rest", "place"] ["line"] (Zi ZiH):=⟨rfl,rfl,rfl,by decide +kernel,rfl,by decide +kernel,by decide +kernel⟩
theorem Zk4:Z8 "_law_march" ZiH ["line"]:=fun _ _ _ _ _ _ us hl=>by obtain⟨_,rfl⟩:=us1 hl;rfl
noncomputable abbrev Zi9:Stmt:=top 16
theorem Zlh:ZF ["line"] ["line"] (Zi Zi9):=⟨rfl,rfl,rfl,by decide +kernel,rfl,by decide +kernel,by decide +kernel⟩
theorem Zll:Z8 "is_marching" Zi9 ["line"]:=fun _ _ _ _ _ _ us hl=>by obtain⟨_,rfl⟩:=us1 hl;rfl
noncomputable abbrev Ziq:Stmt:=top 25
theorem Zkn:ZF ["found"] ["found"] (Zi Ziq):=⟨rfl,rfl,rfl,by decide +kernel,rfl,by decide +kernel,by decide +kernel⟩
theorem Zjt:Z8 "_law_whole_number" Ziq ["found"]:=fun _ _ _ _ _ _ us hl=>by obtain⟨_,rfl⟩:=us1 hl;rfl
noncomputable abbrev Zi5:Stmt:=top 26
theorem ZjZ:ZF ["found", "seeds"] ["found"] (Zi Zi5):=⟨rfl,rfl,rfl,by decide +kernel,rfl,by decide +kernel,by decide +kernel⟩
theorem Zld:Z8 "_law_is_line" Zi5 ["found"]:=fun _ _ _ _ _ _ us hl=>by obtain⟨_,rfl⟩:=us1 hl;rfl
noncomputable abbrev ZiN:Stmt:=top 27
theorem ZjB:ZF ["row", "steps", "here", "turn"] ["row", "steps"] (Zi ZiN):=⟨rfl,rfl,rfl,by decide +kernel,rfl,by decide +kernel,by decide +kernel⟩
theorem Zlv:Z8 "_law_back" ZiN ["row", "steps"]:=fun _ _ _ _ _ _ us hl=>by obtain⟨_,_,rfl⟩:=us2 hl;rfl
noncomputable abbrev Zlr:Stmt:=top 28
theorem Zky:ZF ["script", "line", "handed", "found", "here", "turn", "told", "kept"] ["script"] (Zi Zlr):=⟨rfl,rfl,rfl,by decide +kernel,rfl,by decide +kernel,by decide +kernel⟩
theorem ZlQ:Z8 "law" Zlr ["script"]:=fun _ _ _ _ _ _ us hl=>by obtain⟨_,rfl⟩:=us1 hl;rfl
noncomputable abbrev XN:List Str:=["SowError", "BadLine"]
noncomputable abbrev Zaf:List (Str×Str×Bool):=[("SowError", "SowError",true),("BadLine", "SowError",true)]
noncomputable abbrev Zbk:List (Str×Str×Bool):=[("SowError", "BadLine",false),("BadLine", "BadLine",true)]
noncomputable abbrev XS:List (Str×Str×Bool):=Zaf++Zbk
noncomputable abbrev XR:List Str:=["SowError", "BadLine"]
structure Txt (K:PySem.W.Frag) (mg:Str->Option Value):Prop where
 Zl2:Dfn K mg "_law_line" ZiM
 ZlA:Dfn K mg "is_whole" Zje
 ZkY:Dfn K mg "is_whole_from" Ziz
 Zkh:Dfn K mg "is_list_from_nought" Zio
 ZkH:Dfn K mg "check_line" ZiG
 ZkZ:Dfn K mg "greatest_step" Zi0
 Zk2:Dfn K mg "added_seeds" ZiA
 ZlM:Dfn K mg "march" Zka
 ZlE:Dfn K mg "turn_by" Zjm
 ZkN:Dfn K mg "turn_to_itself" Ziu
 ZlB:Dfn K mg "comes_to" Zjf
 Zlj:Dfn K mg "_law_numbers" Zi4
 Zla:Dfn K mg "_law_marching" Zi1
 ZkI:Dfn K mg "_law_march" ZiH
 Zlq:Dfn K mg "is_marching" Zi9
 Zj5:Dfn K mg "_law_whole_number" Ziq
 Zlk:Dfn K mg "_law_is_line" Zi5
 Zl3:Dfn K mg "_law_back" ZiN
 ZlR:Dfn K mg "law" Zlr
 c_MOST_LINE_PITS:∃t,mg "MOST_LINE_PITS"=some (.int 100 t)
 c_MOST_LINE_SEEDS:∃t,mg "MOST_LINE_SEEDS"=some (.int 100 t)
 z_all:mg "all"=none
 z_bool:mg "bool"=none
 z_enumerate:mg "enumerate"=none
 z_int:mg "int"=none
 z_isinstance:mg "isinstance"=none
 z_len:mg "len"=none
 z_list:mg "list"=none
 z_range:mg "range"=none
 z_sum:mg "sum"=none
 z_tuple:mg "tuple"=none
 x_tab:Zhy K XN XS=true
 x_exc:Zep K XR=true
 x_mg:∀n C,Zfq K n C->mg n=some (.ref C)
section
variable {P:Program}{w:World}{K:W.Frag}{mg:Str->Option Value}{base:Heap}
set_option hygiene false
local macro_rules | `(tactic| walk_at "pd")=>`(tactic| try simp -implicitDefEqProofs (disch:=first|omega|(simp only[Zmh,Zmx,Zm4,Zm1,ZmO,List.length_nil,ZmM,ZmE,List.length_range,Jb];omega)|decide) only[ZeU,ZeV,List.set_cons_zero,List.set_cons_succ,List.cons_append,Znu,ZbF,ZbE,ZmV,Rr.bind_ok,Rr.bind_exc,Rr.bind_bad,Rr.thenS_ok,Rr.thenS_exc,RS.seq_next,RS.seq_ret,RS.seq_exc,RS.out_next,RS.out_ret,RS.out_exc,
 ZeM,ZeB,ZfL,ZfM,ZfU,ZfV,ZeW,Zg9,Zfm,ZdL,Zfn,ZfS,ZfT,ZfR,ZfQ,Zdk,Zdl,ZeC,ZfP,ZfO,Zd5,Zd6,Zd4,Zd3,ZeJ,UQ,ZeI,ZfW,ZbV,ZeF,ZbR,ZmO,List.length_nil,Bool.not_true,Bool.not_false,Bool.false_eq_true,if_true,if_false,Nat.reduceAdd,Nat.reduceSub,id,Zmd,Zmn,Int.reduceToNat,ZaX,ZeE,Zgc,Zgb,ZfN,ZaW,Zhu,Nat.reduceLeDiff,ZlY,Int.reduceLT,Int.reduceLE,Int.reduceEq,decide_true,decide_false,
 Zdj,ZbS,Zca,ZbU,ZbZ,Zdf,Zdd,QS,U8,Vp,Zds,Zdh,ZdH,Zdp,Zdo,ZeK,Zdn,beq_self_eq_true,Bool.and_true,Bool.true_and,Bool.and_false,Bool.false_and,ZfK])
set_option hygiene true
noncomputable def ZiI:Pm:=⟨List Int,fun ns=>[.lst (ns.map PV.int)],fun ns=>ns.length<=1000/\21<=ns.length,fun ns=>.ok (.lst ((Vt ns).map PV.int))⟩
theorem Zls (T:Txt K mg) {f:Addr}{fd:FuncData} (F:Fun K "_law_line" "_law_line" ZiM f fd):Va P w K mg base CX0 1 f fd ["numbers"] (spF K 1 .F W0 ZiI.fn):=by
 refine F.okP ZiF rfl rfl (fun cdv A outer s H E hr=>?_)
 have hu:=hr.units
 refine⟨_,_,⟨[],[],[],.F⟩,rfl,(Zf (ZG (i:=1) ZiF.nd rfl (by first|exact Or.inl rfl|exact Or.inr rfl) (Zr ZW (ZJ (Zm (K:=K)) (pv 0) Zc (fun _ _=>rfl)) Zc))
   (Zf (ZG (i:=2) ZiF.nd rfl (by first|exact Or.inl rfl|exact Or.inr rfl) (Zr ZW (ZJ (Zm (K:=K)) (pv 0) Zc (fun _ _=>rfl)) Zc))
   (Zf (Jk (PW.pt (Uh (Zq (Je (K:=K) hu) (pv 1) Zc (Zu _)) (Vc (Zq (Je (K:=K) hu) (Zr ZW (ZJ (Zm (K:=K)) (pv 0) Zc (fun _ _=>rfl)) Zc) Zc (Zu _))))) (Zk (Z5 (Zr Za4 (J7 (Zb Zc Zh)) (Zr ZP Zc (Zr ZW (ZJ (Zm (K:=K)) (pv 0) Zc (fun _ _=>rfl)) Zc))))) Z9)
   (Zf (Jk (PW.pt (Uh (Zq (Je (K:=K) hu) (pv 1) Zc (Zu _)) (Vc (Zq (Je (K:=K) hu) (Zr ZW (ZJ (Zm (K:=K)) (pv 0) Zc (fun _ _=>rfl)) Zc) Zc (Zu _))))) (Zk (Z5 (J7 (Zb (Zr Vo Zc (Zr ZW (ZJ (Zm (K:=K)) (pv 0) Zc (fun _ _=>rfl)) Zc)) Zh)))) Z9)
   (Zf (Jk (PW.pt (Uh (Zq (Je (K:=K) hu) (pv 1) Zc (Zu _)) (Vc (Zq (Je (K:=K) hu) (Zr ZW (ZJ (Zm (K:=K)) (pv 0) Zc (fun _ _=>rfl)) Zc) Zc (Zu _))))) (Zf (ZG (i:=3) ZiF.nd rfl (by first|exact Or.inl rfl|exact Or.inr rfl) (Zr Za4 (J7 (Zb Zc Zh)) (Zr ZP Zc (Zr ZW (ZJ (Zm (K:=K)) (pv 0) Zc (fun _ _=>rfl)) Zc))))
   (Zf (U5 (Zr ZP Zc (Zr ZW (ZJ (Zm (K:=K)) (pv 0) Zc (fun _ _=>rfl)) Zc)) (U6 (pv 3) Zc Jz))
   (Zf (U5 (Zr ZP Zc (Zr ZW (ZJ (Zm (K:=K)) (pv 0) Zc (fun _ _=>rfl)) Zc)) (U6 (pv 3) (ZbO Qg Zc) Jz))
   (Zf (ZbH (pv 3) (Zr ZW (ZJ (Zm (K:=K)) (pv 0) Zc (fun _ _=>rfl)) (Zt (ZI (K:=K)) rfl T.z_len Jv (Zb (pv 3) Zh))) (Q1 (K:=K)) (Zr ZW (ZJ (Zm (K:=K)) (pv 0) Zc (fun _ _=>rfl)) Zc) Qy Jz)
   (Zk (Z5 (pv 3))))))) Z9)
   (Zf (Jk (Zq (Je (K:=K) hu) (pv 1) Zc (Zu _)) (Zf (ZG (i:=4) ZiF.nd rfl (by first|exact Or.inl rfl|exact Or.inr rfl) (UO (Jg rfl T.z_range (Zb (Zr ZP (pv 2) Zc) Zh)) (fun _ _ _ _=>(Zr ZW (Zr VT (ZJ (Zm (K:=K)) (pv 0) (Zr ZP Zc (pv 5)) (fun _ _=>rfl)) Zc) Zc)) ZiF.nd rfl))
   (Zf (U4 (i:=3) ZiF.nd rfl (Jg rfl T.z_range (Zb (Zr ZP (pv 2) Zc) Zh)) (fun _ _ _ _=>(Zr ZP (Zr Vo (pv 2) (pv 5)) (ZJ (Zm (K:=K)) (pv 4) (pv 5) (fun _ _=>rfl)))) rfl)
   (Zf (Vm PassesOwn.never (PW.pt (Uh (Zq VM (Zt (ZI (K:=K)) rfl T.z_len Jv (Zb (pv 3) Zh)) Zc (Zu _)) (Vc (Zq (Je (K:=K) hu) (ZJ (Zm (K:=K)) (pv 3) (ZbO Qg Zc) (fun _ _=>rfl)) Zc (Zu _))))) (Zk (V4 (ZfI PySem.F.plainAttrs_list PySem.F.slot_list_pop PySem.F.type_list_pop Zga (pv 3)))))
   (Zk (Z5 (pv 3)))))) Z9)
   (Zf (U4 (i:=3) ZiF.nd rfl (Jg rfl T.z_range (Zb (pv 2) Zh)) (fun _ _ _ _=>(Zr ZW (Zr VT (ZJ (Zm (K:=K)) (pv 0) (Zr ZP Zc (pv 5)) (fun _ _=>rfl)) Zc) Zc)) rfl)
   (Zf (Jk (Zq VM (pv 2) Zc (Zu _)) (Zf (U5 (Zr ZP Zc (ZJ (Zm (K:=K)) (pv 3) Zc (fun _ _=>rfl))) (U6 (pv 3) Zc Jz))
   (Zk (U5 (Zr ZP Zc (Zr ZW (ZJ (Zm (K:=K)) (pv 0) Zc (fun _ _=>rfl)) Zc)) (U6 (pv 3) (ZbO Qg Zc) Jz)))) Z9)
   (Zf (Jk (PW.pt (Uh (Zq (Je (K:=K) hu) (pv 1) Zc (Zu _)) (Vc (Zq VM (pv 2) Zc (Zu _))))) (Zk (ZbH (pv 3) (Zr ZW (ZJ (Zm (K:=K)) (pv 0) Zc (fun _ _=>rfl)) (pv 2)) (Q1 (K:=K)) (Zr ZW (ZJ (Zm (K:=K)) (pv 0) Zc (fun _ _=>rfl)) Zc) Qy Jz)) Z9)
   (Zk (Z5 (pv 3)))))))))))),
   (Zl (Γm:=[.S,.P,.U,.U,.U]) (Ji (i:=1) (ZY (Zv (te:=tC .non) (Za (i:=0) (m:=.S) rfl (by decide)) (DE.toA Zd)) (DE.toA Zd)) (by decide))
   (Zl (Γm:=[.S,.P,.P,.U,.U]) (Ji (i:=2) (ZY (Zv (te:=tC .non) (Za (i:=0) (m:=.S) rfl (by decide)) (DE.toA Zd)) (DE.toA Zd)) (by decide))
   (Zl (Γm:=[.S,.P,.P,.U,.U]) (Jm (Ut (Zp (DE.toA (ZQ (g:=id) (DE.toA (Zn (i:=1) rfl)) (DE.toA Zd)))) (Zp (DE.toA (ZQ (g:=id) (DE.toA (ZY (Zv (te:=tC .non) (Za (i:=0) (m:=.S) rfl (by decide)) (DE.toA Zd)) (DE.toA Zd))) (DE.toA Zd)))))
   (Jc (UX (Ze (DE.toA Zd) Zg) (DE.toA (ZR (DE.toA Zd) (DE.toA (ZY (Zv (te:=tC .non) (Za (i:=0) (m:=.S) rfl (by decide)) (DE.toA Zd)) (DE.toA Zd)))))))
   ZC)
   (Zl (Γm:=[.S,.P,.P,.U,.U]) (Jm (Ut (Zp (DE.toA (ZQ (g:=id) (DE.toA (Zn (i:=1) rfl)) (DE.toA Zd)))) (Zp (DE.toA (ZQ (g:=id) (DE.toA (ZY (Zv (te:=tC .non) (Za (i:=0) (m:=.S) rfl (by decide)) (DE.toA Zd)) (DE.toA Zd))) (DE.toA Zd)))))
   (Jc (JH (Jp (DE.PF (Vx (DE.toA Zd) (DE.toA (ZY (Zv (te:=tC .non) (Za (i:=0) (m:=.S) rfl (by decide)) (DE.toA Zd)) (DE.toA Zd))))) J4)))
   ZC)
   (Zl (Γm:=[.S,.P,.P,.U,.U]) (Jm (Ut (Zp (DE.toA (ZQ (g:=id) (DE.toA (Zn (i:=1) rfl)) (DE.toA Zd)))) (Zp (DE.toA (ZQ (g:=id) (DE.toA (ZY (Zv (te:=tC .non) (Za (i:=0) (m:=.S) rfl (by decide)) (DE.toA Zd)) (DE.toA Zd))) (DE.toA Zd)))))
   (Zl (Γm:=[.S,.P,.P,.O,.U]) (ZU (i:=3) (UX (Ze (DE.toA Zd) Zg) (DE.toA (ZR (DE.toA Zd) (DE.toA (ZY (Zv (te:=tC .non) (Za (i:=0) (m:=.S) rfl (by decide)) (DE.toA Zd)) (DE.toA Zd)))))) (by decide))
   (Zl (Γm:=[.S,.P,.P,.O,.U]) (J9 (i:=3) rfl (ZR (DE.toA Zd) (DE.toA (ZY (Zv (te:=tC .non) (Za (i:=0) (m:=.S) rfl (by decide)) (DE.toA Zd)) (DE.toA Zd)))) (DE.toA Zd))
   (Zl (Γm:=[.S,.P,.P,.O,.U]) (J9 (i:=3) rfl (ZR (DE.toA Zd) (DE.toA (ZY (Zv (te:=tC .non) (Za (i:=0) (m:=.S) rfl (by decide)) (DE.toA Zd)) (DE.toA Zd)))) (DE.toA (Q7 (DE.toA Zd))))
   (Zl (Γm:=[.S,.P,.P,.O,.U]) (ZaE (i:=3) rfl rfl (DE.toA (ZY (Zv (te:=tC .non) (Za (i:=0) (m:=.S) rfl (by decide)) (DE.toA Zd)) (DE.toA (Jt (Ze (Za (i:=3) (m:=.O) rfl (by decide)) Zg))))) (DE.toA (ZY (Zv (te:=tC .non) (Za (i:=0) (m:=.S) rfl (by decide)) (DE.toA Zd)) (DE.toA Zd))))
   (Jc (Vg (i:=3) rfl))))))
   ZC)
   (Zl (Γm:=[.S,.P,.P,.U,.U]) (Jm (Zp (DE.toA (ZQ (g:=id) (DE.toA (Zn (i:=1) rfl)) (DE.toA Zd))))
   (Zl (Γm:=[.S,.P,.P,.U,.O]) (ZU (i:=4) (JY (DI.c (JG (Ze (DE.toA (ZR (DE.toA (Zn (i:=2) rfl)) (DE.toA Zd))) Zg))) (DE.PF (ZY (DE.toA (ZaH (Zv (te:=tC .non) (Za (i:=0) (m:=.S) rfl (by decide)) (DE.toA (ZR (DE.toA Zd) (Za (i:=5) (m:=.S) rfl (by decide))))) (DE.toA Zd))) (DE.toA Zd)))) (by decide))
   (Zl (Γm:=[.S,.P,.P,.O,.O]) (UD (i:=3) (JY (DI.c (JG (Ze (DE.toA (ZR (DE.toA (Zn (i:=2) rfl)) (DE.toA Zd))) Zg))) (DE.PF (ZR (DE.toA (Vx (DE.toA (Zn (i:=2) rfl)) (Za (i:=5) (m:=.S) rfl (by decide)))) (Zv (te:=tC .non) (Za (i:=4) (m:=.O) rfl (by decide)) (Za (i:=5) (m:=.S) rfl (by decide)))))) (by decide))
   (Zl (Γm:=[.S,.P,.P,.O,.O]) (Vw (Γ:=[.S,.P,.P,.O,.O]) (Ut (Zp (DE.toA (VO (DE.toA (Jt (Ze (Za (i:=3) (m:=.O) rfl (by decide)) Zg))) (DE.toA Zd)))) (Zp (DE.toA (ZQ (g:=id) (Zv (te:=tC .non) (Za (i:=3) (m:=.O) rfl (by decide)) (DE.toA (Q7 (DE.toA Zd)))) (DE.toA Zd)))))
   (ZeZ (i:=3) rfl))
   (Jc (Vg (i:=3) rfl)))))
   ZC)
   (Zl (Γm:=[.S,.P,.P,.O,.U]) (UD (i:=3) (JY (DI.c (JG (Ze (DE.toA (Zn (i:=2) rfl)) Zg))) (DE.PF (ZY (DE.toA (ZaH (Zv (te:=tC .non) (Za (i:=0) (m:=.S) rfl (by decide)) (DE.toA (ZR (DE.toA Zd) (Za (i:=5) (m:=.S) rfl (by decide))))) (DE.toA Zd))) (DE.toA Zd)))) (by decide))
   (Zl (Γm:=[.S,.P,.P,.O,.U]) (Jm (Zp (DE.toA (VO (DE.toA (Zn (i:=2) rfl)) (DE.toA Zd))))
   (Zl (Γm:=[.S,.P,.P,.O,.U]) (J9 (i:=3) rfl (ZR (DE.toA Zd) (Zv (te:=tC .non) (Za (i:=3) (m:=.O) rfl (by decide)) (DE.toA Zd))) (DE.toA Zd))
   (J9 (i:=3) rfl (ZR (DE.toA Zd) (DE.toA (ZY (Zv (te:=tC .non) (Za (i:=0) (m:=.S) rfl (by decide)) (DE.toA Zd)) (DE.toA Zd)))) (DE.toA (Q7 (DE.toA Zd)))))
   ZC)
   (Zl (Γm:=[.S,.P,.P,.O,.U]) (Jm (Ut (Zp (DE.toA (ZQ (g:=id) (DE.toA (Zn (i:=1) rfl)) (DE.toA Zd)))) (Zp (DE.toA (VO (DE.toA (Zn (i:=2) rfl)) (DE.toA Zd)))))
   (ZaE (i:=3) rfl rfl (DE.toA (ZY (Zv (te:=tC .non) (Za (i:=0) (m:=.S) rfl (by decide)) (DE.toA Zd)) (DE.toA (Zn (i:=2) rfl)))) (DE.toA (ZY (Zv (te:=tC .non) (Za (i:=0) (m:=.S) rfl (by decide)) (DE.toA Zd)) (DE.toA Zd))))
   ZC)
   (Jc (Vg (i:=3) rfl))))))))))), ?_⟩
 refine Pm.ref ZiI (g:=fun xs=>_) ?_
 rintro(ns:List Int) ⟨hn,h1⟩
 simp only[ZiI]
 have hL:Vt ns=_:=rfl
 conv at hL=>rhs;unfold Vt
 generalize hm:ns.getD 0 0%13=many at hL
 have hm0:0<=many/\many<=12:=by omega
 walk_at "pd"
 rw[hm]
 generalize hw:ns.getD 1 0%4=way at hL
 have hw4:way=0\/way=1\/way=2\/way=3:=by omega
 generalize hx:ns.getD 2 0%4=x at hL
 have hx4:x=0\/x=1\/x=2\/x=3:=by omega
 rcases hw4 with rfl|rfl|rfl|rfl
 ·replace hL:Vt ns=JM ns many:=by rw[hL];simp
  rw[hL]
  walk_at "pd"
  rw[V8 (g:=fun p=>ns.getD (8+p) 0/3%5) (fun i hi=>by
   walk_at "pd"
   rw[show (8+(0+(i:Int))).toNat=8+i by omega])]
  rw[show (List.range many.toNat).map (fun(p:Nat)=>ns.getD (8+p) 0/3%5)=Ja ns many from rfl]
  have hlb:(Ja ns many).length=many.toNat:=by simp[Ja]
  walk_at "pd"
  have hC:JM ns many=if 0<many then ((Ja ns many).set 0 (1+(Ja ns many).getD 0 0)).set (many.toNat-1) (1+ns.getD 7 0%4) else Ja ns many:=rfl
  by_cases hp:0<many
  ·rw[if_pos hp] at hC
   rw[decide_eq_true hp]
   walk_at "pd"
   rw[Vn (by intro z;have:=congrArg List.length z;simp[hlb] at this;omega)]
   rw[Zm4,hlb,<- hC]
   have hlc:(JM ns many).length=many.toNat:=(Vu ns hm0).2.2
   walk_at "pd"
  ·rw[if_neg hp] at hC
   rw[decide_eq_false hp]
   walk_at "pd"
   rw[hC]
 ·replace hL:Vt ns=if 0<many then (JM ns many).set (ns.getD 2 0%many).toNat ((JM ns many).getD (ns.getD 2 0%many).toNat 0+ns.getD 3 0%40) else JM ns many:=by rw[hL];simp
  skip
  walk_at "pd"
  rw[V8 (g:=fun p=>ns.getD (8+p) 0/3%5) (fun i hi=>by
   walk_at "pd"
   rw[show (8+(0+(i:Int))).toNat=8+i by omega])]
  rw[show (List.range many.toNat).map (fun(p:Nat)=>ns.getD (8+p) 0/3%5)=Ja ns many from rfl]
  have hlb:(Ja ns many).length=many.toNat:=by simp[Ja]
  walk_at "pd"
  have hC:JM ns many=if 0<many then ((Ja ns many).set 0 (1+(Ja ns many).getD 0 0)).set (many.toNat-1) (1+ns.getD 7 0%4) else Ja ns many:=rfl
  by_cases hp:0<many
  ·rw[if_pos hp] at hC
   rw[decide_eq_true hp]
   walk_at "pd"
   rw[Vn (by intro z;have:=congrArg List.length z;simp[hlb] at this;omega)]
   rw[Zm4,hlb,<- hC]
   have hlc:(JM ns many).length=many.toNat:=(Vu ns hm0).2.2
   walk_at "pd"
   rw[decide_eq_true hp]
   have b0:=ZmI (ns.getD 2 0) (show many≠0 by omega)
   have b1:=Zm6 (ns.getD 2 0) hp
   walk_at "pd"
   rw[hL,if_pos hp]
  ·rw[if_neg hp] at hC
   rw[decide_eq_false hp]
   walk_at "pd"
   rw[hL,if_neg hp,hC,decide_eq_false hp]
   walk_at "pd"
 ·replace hL:Vt ns=ZcS (Ug ns many):=by rw[hL];simp
  skip
  walk_at "pd"
  rw[hL]
  rw[V8 (g:=fun p=>ns.getD (8+p) 0/3%2) (fun i hi=>by
   walk_at "pd"
   rw[show (8+(0+(i:Int))).toNat=8+i by omega])]
  generalize hmo:(List.range (many+1).toNat).map (fun(p:Nat)=>ns.getD (8+p) 0/3%2)=more
  have hml:more.length=(many+1).toNat:=by rw[<- hmo];simp
  have hmg:∀i,i<(many+1).toNat->more.getD i 0=ns.getD (8+i) 0/3%2:=fun i hi=>by
   rw[<- hmo,ZlS,Zmm,Zmr hi];rfl
  walk_at "pd"
  rw[V8 (g:=fun p=>many-(p:Nat)+more.getD p 0) (fun i hi=>by
   rw[Znn]
   walk_at "pd"
   rw[Zm8])]
  rw[show (List.range (many+1).toNat).map (fun(p:Nat)=>many-(p:Nat)+more.getD p 0)=Ug ns many by
   unfold Ug
   apply ZmC
   intro i hi
   rw[hmg i (Zmp.mp hi)]]
  walk_at "pd"
  have hrl:(Ug ns many).length=(many+1).toNat:=by simp[Ug]
  generalize Ug ns many=row at hL hrl
  have ht:=UG row row.length
  generalize hw2:JI _ _ _=W
  obtain⟨ρ',rfl,rfl⟩:=Jr hw2 (row.length-J5 row row.length) (fun k ρ=>ρ=[.lst (ns.map PV.int),.int 2,.int many,.lst ((row.take (row.length-k)).map PV.int),.lst (more.map PV.int)]) (by rw[Nat.sub_zero,List.take_length]) (by
   rintro k ρ hk rfl
   have hz:=U3 row row.length (row.length-k-1) (by omega) (by omega)
   have hkl:(row.take (row.length-k)).length=row.length-k:=by rw[ZmM];omega
   have hne:row.take (row.length-k)≠[]:=by intro z;rw[z] at hkl;simp at hkl;omega
   constructor
   ·walk_at "pd"
    rw[decide_eq_true (by omega)]
    walk_at "pd"
    rw[VR hne,hkl]
    walk_at "pd"
    rw[ZlS,ZmG (by omega),<- ZlS,hz]
    rfl
   ·walk_at "pd"
    exact JR (by rw[List.dropLast_eq_take,hkl,List.take_take,show min (row.length-k-1) (row.length-k)=row.length-(k+1) by omega])) (by
   rintro ρ rfl
   have hl:=V1 row row.length
   rw[show row.length-(row.length-J5 row row.length)=J5 row row.length by omega]
   have hkl:(row.take (J5 row row.length)).length=J5 row row.length:=by rw[ZmM];omega
   walk_at "pd"
   by_cases h:0<J5 row row.length
   ·have hne:row.take (J5 row row.length)≠[]:=by intro z;rw[z] at hkl;simp at hkl;omega
    rw[decide_eq_true (by omega)]
    walk_at "pd"
    rw[VR hne,hkl]
    walk_at "pd"
    rw[ZlS,ZmG (by omega),<- ZlS,decide_eq_false (hl h)]
   ·rw[decide_eq_false (by omega)]
    walk_at "pd")
  walk_at "pd"
  rw[show row.length-(row.length-J5 row row.length)=J5 row row.length by omega]
  rfl
 ·rcases hx4 with rfl|rfl|rfl|rfl
  ·replace hL:Vt ns=JM ns many:=by rw[hL];simp
   rw[hL]
   walk_at "pd"
   try rw[hx]
   walk_at "pd"
   try rw[hx]
   walk_at "pd"
   rw[V8 (g:=fun p=>ns.getD (8+p) 0/3%5) (fun i hi=>by
    walk_at "pd"
    rw[show (8+(0+(i:Int))).toNat=8+i by omega])]
   rw[show (List.range many.toNat).map (fun(p:Nat)=>ns.getD (8+p) 0/3%5)=Ja ns many from rfl]
   have hlb:(Ja ns many).length=many.toNat:=by simp[Ja]
   walk_at "pd"
   have hC:JM ns many=if 0<many then ((Ja ns many).set 0 (1+(Ja ns many).getD 0 0)).set (many.toNat-1) (1+ns.getD 7 0%4) else Ja ns many:=rfl
   by_cases hp:0<many
   ·rw[if_pos hp] at hC
    rw[decide_eq_true hp]
    walk_at "pd"
    rw[Vn (by intro z;have:=congrArg List.length z;simp[hlb] at this;omega)]
    rw[Zm4,hlb,<- hC]
    have hlc:(JM ns many).length=many.toNat:=(Vu ns hm0).2.2
    walk_at "pd"
   ·rw[if_neg hp] at hC
    rw[decide_eq_false hp]
    walk_at "pd"
    rw[hC]
  ·replace hL:Vt ns=List.replicate (88+ns.getD 3 0%13).toNat 1:=by rw[hL];simp
   rw[hL]
   walk_at "pd"
   try rw[hx]
   walk_at "pd"
   try rw[hx]
   walk_at "pd"
  ·replace hL:Vt ns=[100-ns.getD 3 0%40]:=by rw[hL];simp
   rw[hL]
   walk_at "pd"
   try rw[hx]
   walk_at "pd"
   try rw[hx]
   walk_at "pd"
  ·replace hL:Vt ns=(Uo ns).set (ns.getD 6 0%(60+ns.getD 3 0%41)).toNat ((Uo ns).getD (ns.getD 6 0%(60+ns.getD 3 0%41)).toNat 0+ns.getD 7 0%30):=by rw[hL];simp
   rw[hL]
   walk_at "pd"
   try rw[hx]
   walk_at "pd"
   try rw[hx]
   walk_at "pd"
   have hd0:(60+ns.getD 3 0%41).toNat≠0:=by omega
   have hDl:((List.replicate (60+ns.getD 3 0%41).toNat (0:Int)).set 0 (1+ns.getD 4 0%3)).length=(60+ns.getD 3 0%41).toNat:=by simp
   rw[Vn (by intro z;rw[z] at hDl;simp at hDl;omega),hDl]
   rw[show ((List.replicate (60+ns.getD 3 0%41).toNat (0:Int)).set 0 (1+ns.getD 4 0%3)).set ((60+ns.getD 3 0%41).toNat-1) (1+ns.getD 5 0%3)=Uo ns from rfl]
   have hDD:(Uo ns).length=(60+ns.getD 3 0%41).toNat:=VE ns
   walk_at "pd"
   have b0:=ZmI (ns.getD 6 0) (show 60+ns.getD 3 0%41≠0 by omega)
   have b1:=Zm6 (ns.getD 6 0) (show 0<60+ns.getD 3 0%41 by omega)
   rw[show ((Uo ns).length:Int)=60+ns.getD 3 0%41 by rw[hDD];omega]
   walk_at "pd"
theorem Zj6 {ns:List Int} (h:ns.length<=1000/\21<=ns.length):ZiI.fn [.lst (ns.map PV.int)]=.ok (.lst ((Vt ns).map PV.int)):=Pm.fn_eq ZiI ns h fun(a:List Int) e=>by (simp only[ZiI,List.cons.injEq,PV.lst.injEq,PV.int.injEq,PV.str.injEq,PV.bl.injEq,PV.tup.injEq,ZX,and_true] at e ⊢;first|(simp only[e];done)|(subst e;rfl)|(rw[e]))
noncomputable def ZiZ:Pm:=⟨Int,fun i=>[.int i],fun _=>True,fun _=>.ok (.bl true)⟩
theorem Zlz (T:Txt K mg) {f:Addr}{fd:FuncData} (F:Fun K "is_whole" "is_whole" Zje f fd):Va P w K mg base CX0 1 f fd ["value"] (spF K 1 .P W0 ZiZ.fn):=by
 refine F.okP Zlw rfl rfl (fun cdv A outer s H E hr=>?_)
 have hu:=hr.units
 refine⟨_,_,⟨[],[],[],.P⟩,rfl,(Zk (Z5 (U7 (Zt (Jn (K:=K) (n := "int") rfl) rfl T.z_isinstance ZN (Zb (pv 0) (Zb (JQ (v:=.ty "int") rfl T.z_int Zel rfl) Zh))) (Uj (ZdY (Zt (Jn (K:=K) (n := "bool") rfl) rfl T.z_isinstance ZN (Zb (pv 0) (Zb (JQ (v:=.ty "bool") rfl T.z_bool Zac rfl) Zh)))))))),
   (ZK (UF (DE.toA (VI (Za (i:=0) (m:=.S) rfl (by decide)))) (Zeh (DE.toA (VI (Za (i:=0) (m:=.S) rfl (by decide))))))), ?_⟩
 refine Pm.ref ZiZ (g:=fun xs=>_) ?_
 intro (i:Int) _
 simp only[ZiZ]
 walk_at "pd"
theorem ZjM {i:Int}:ZiZ.fn [.int i]=.ok (.bl true):=Pm.fn_eq ZiZ i trivial fun _ _=>rfl
noncomputable def Ziv:Pm:=⟨Int×Int,fun a=>[.int a.1,.int a.2],fun _=>True,fun a=>.ok (.bl (decide (a.2<=a.1)))⟩
theorem ZkK (T:Txt K mg) {f:Addr}{fd:FuncData} (F:Fun K "is_whole_from" "is_whole_from" Ziz f fd):Va P w K mg base CX0 2 f fd ["value", "least"] (spF K 2 .P W0 Ziv.fn):=by
 have ZlD:=Qc (P:=P) (w:=w) (base:=base) T.ZlA Zl4 (fun F=>Zlz T F)
 refine F.okP ZkJ rfl rfl (fun cdv A outer s H E hr=>?_)
 have hu:=hr.units
 refine⟨_,_,⟨[],[],[],.P⟩,rfl,(Zk (Z5 (U7 (Z4 ZlD (hr.mono (by decide)) rfl (Zb (pv 0) Zh)) (Uj (J1 Zhh (pv 0) (pv 1) (Zu _)))))),
   (ZK (UF (DE.toA (ZcO (Zo Z0) (Ze (Za (i:=0) (m:=.S) rfl (by decide)) Zg))) (Zhq (Za (i:=0) (m:=.S) rfl (by decide)) (Za (i:=1) (m:=.S) rfl (by decide))))), ?_⟩
 refine Pm.ref Ziv (g:=fun xs=>_) ?_
 rintro⟨i,j⟩ _
 simp only[Ziv]
 walk_at "pd"
 rw[ZjM]
 walk_at "pd"
theorem ZiT {i j:Int}:Ziv.fn [.int i,.int j]=.ok (.bl (decide (j<=i))):=Pm.fn_eq Ziv (i,j) trivial fun(a:Int×Int) e=>by (simp only[Ziv,List.cons.injEq,PV.lst.injEq,PV.int.injEq,PV.str.injEq,PV.bl.injEq,PV.tup.injEq,ZX,and_true] at e ⊢;first|(simp only[e];done)|(subst e;rfl)|(rw[e]))
noncomputable def Zin:Pm:=⟨List Int,fun ns=>[.lst (ns.map PV.int)],fun ns=>ns.length<=1000000,fun ns=>.ok (.bl (decide (∀x∈ns,0<=x)))⟩
theorem ZjX (T:Txt K mg) {f:Addr}{fd:FuncData} (F:Fun K "is_list_from_nought" "is_list_from_nought" Zio f fd):Va P w K mg base CX0 3 f fd ["values"] (spF K 1 .P W0 Zin.fn):=by
 have Zlf:=Qc (P:=P) (w:=w) (base:=base) T.ZkY ZkO (fun F=>ZkK T F)
 refine F.okP Zjj rfl rfl (fun cdv A outer s H E hr=>?_)
 have hu:=hr.units
 refine⟨_,_,⟨[],[],[],.P⟩,rfl,(Zk (Z5 (U7 (Zt (Jn (K:=K) (n := "list") rfl) rfl T.z_isinstance ZN (Zb (pv 0) (Zb (JQ (v:=.ty "list") rfl T.z_list Vj rfl) Zh))) (Uj (Zt (QD (K:=K) rfl) rfl T.z_all Zem (Zb (UO (UN (K:=K) (pv 0)) (fun _ _ _ _=>(Z4 Zlf (hr.mono (by decide)) rfl (Zb (pv 1) (Zb Zc Zh)))) Zjj.nd rfl) Zh)))))),
   (ZK (UF (DE.toA (VI (Za (i:=0) (m:=.S) rfl (by decide)))) (Zej (Ze (DE.toA (JY (DI.c (Zc8 (Zc9 (i:=0) rfl))) (DE.PF (ZcO (Zo (Zo Z0)) (Ze (Za (i:=1) (m:=.S) rfl (by decide)) (Ze (DE.toA Zd) Zg)))))) Zg)))), ?_⟩
 refine Pm.ref Zin (g:=fun xs=>_) ?_
 intro (ns:List Int) (hn:ns.length<=1000000)
 simp only[Zin]
 walk_at "pd"
 rw[Zcl (g:=fun z=>decide (0<=z)) (fun z _=>ZiT)]
 walk_at "pd"
 rw[ZcK]
theorem Zi3 {ns:List Int} (h:ns.length<=1000000):Zin.fn [.lst (ns.map PV.int)]=.ok (.bl (decide (∀x∈ns,0<=x))):=Pm.fn_eq Zin ns h fun(a:List Int) e=>by (simp only[Zin,List.cons.injEq,PV.lst.injEq,PV.int.injEq,PV.str.injEq,PV.bl.injEq,PV.tup.injEq,ZX,and_true] at e ⊢;first|(simp only[e];done)|(subst e;rfl)|(rw[e]))
theorem JL:Zin.calm:=fun a q h=>by (simp only[Zin] at h;cases h)
noncomputable def Qu (ns:List Int):Option Str:=if Zj ns then none else some "BadLine"
theorem JW {ns:List Int} (h:Zj ns):Qu ns=none:=if_pos h
theorem JF {ns:List Int} (h:¬Zj ns):Qu ns=(some "BadLine":Option Str):=if_neg h
noncomputable def ZiB:Pm:=⟨List Int,fun ns=>[.lst (ns.map PV.int)],fun ns=>ns.length<=1000000,fun ns=>orX (Qu ns) .non⟩
theorem Zk0 (T:Txt K mg) {f:Addr}{fd:FuncData} (F:Fun K "check_line" "check_line" ZiG f fd):Va P w K mg base (CX1 P w) 4 f fd ["line"] (spF K 1 .P (W1 K) ZiB.fn):=by
 have Zkk:=Qc (P:=P) (w:=w) (base:=base) T.Zkh ZjY (fun F=>ZjX T F)
 obtain⟨C_BadLine,hC_BadLine,hQ_BadLine⟩:=ZcP T.x_exc (n := "BadLine") (by decide)
 refine F.okX Zlp rfl rfl (fun cdv A outer s H E hr=>?_)
 have hu:=hr.units
 refine⟨_,_,⟨[.S],[],[],.P⟩,rfl,(Zf (Jk (PW.pt (V3 (J6 (JJ (Z4 Zkk (hr.mono (by decide)) rfl (Zb (pv 0) Zh)))) (V3 (Zq VM (Zt (ZI (K:=K)) rfl T.z_len Jv (Zb (pv 0) Zh)) (Zaz T.c_MOST_LINE_PITS rfl) (Zu _)) (Vl (Zq VM (Zt (Ux (K:=K) rfl) rfl T.z_sum ZcJ (Zb (pv 0) Zh)) (Zaz T.c_MOST_LINE_SEEDS rfl) (Zu _)))))) (Zk (Zat Zcm hQ_BadLine rfl (T.x_mg _ _ hC_BadLine) rfl (Zb ZdX Zh))) Z9)
   (Zk (Jk (PW.pt (Uh (Zq VM (Zt (ZI (K:=K)) rfl T.z_len Jv (Zb (pv 0) Zh)) Zc (Zu _)) (Vc (PW.pt (V3 (Zq (Je (K:=K) hu) (ZJ (Zm (K:=K)) (pv 0) Zc (fun _ _=>rfl)) Zc (Zu _)) (Vl (Zq (Je (K:=K) hu) (ZJ (Zm (K:=K)) (pv 0) (ZbO Qg Zc) (fun _ _=>rfl)) Zc (Zu _)))))))) (Zk (Zat Zcm hQ_BadLine rfl (T.x_mg _ _ hC_BadLine) rfl (Zb ZdX Zh))) Z9))),
   (Zl (Γm:=[.S]) (Jm (VC (J8 (Zbo (DE.toA (ZhO (Zo Z0) (Pm.calm_fn JL) (Ze (Za (i:=0) (m:=.S) rfl (by decide)) Zg))))) (VC (Zp (DE.toA (VO (DE.toA (Jt (Ze (Za (i:=0) (m:=.S) rfl (by decide)) Zg))) (DE.toA Zd)))) (Zp (DE.toA (VO (DE.toA (ZcB (Ze (Za (i:=0) (m:=.S) rfl (by decide)) Zg))) (DE.toA Zd))))))
   (ZaD hC_BadLine (Zo Z0) (by decide) (Ze (DE.toA Zef) Zg))
   ZC)
   (Jm (Ut (Zp (DE.toA (VO (DE.toA (Jt (Ze (Za (i:=0) (m:=.S) rfl (by decide)) Zg))) (DE.toA Zd)))) (VC (Zp (DE.toA (ZQ (g:=id) (Zv (te:=tC .non) (Za (i:=0) (m:=.S) rfl (by decide)) (DE.toA Zd)) (DE.toA Zd)))) (Zp (DE.toA (ZQ (g:=id) (Zv (te:=tC .non) (Za (i:=0) (m:=.S) rfl (by decide)) (DE.toA (Q7 (DE.toA Zd)))) (DE.toA Zd))))))
   (ZaD hC_BadLine (Zo Z0) (by decide) (Ze (DE.toA Zef) Zg))
   ZC)), ?_⟩
 refine Pm.ref ZiB (g:=fun xs=>_) ?_
 intro (ns:List Int) (hn:ns.length<=1000000)
 simp only[ZiB]
 walk_at "pd"
 rw[Zi3 hn]
 walk_at "pd"
 by_cases h1:∀x∈ns,0<=x
 ·rw[decide_eq_true h1]
  walk_at "pd"
  by_cases h2:ns.length<=100
  ·rw[decide_eq_false (by omega)]
   walk_at "pd"
   by_cases h3:ns.sum<=100
   ·rw[decide_eq_false (by omega)]
    walk_at "pd"
    by_cases h4:ns=[]
    ·subst h4
     walk_at "pd"
     rw[JW ⟨by simp,by simp,by simp,.inl rfl⟩]
     rfl
    ·have hl:0<ns.length:=ZmA.mpr h4
     rw[decide_eq_true (by omega)]
     walk_at "pd"
     rw[VR h4]
     walk_at "pd"
     by_cases h5:ns.getD 0 0=0
     ·rw[decide_eq_true h5,JF (fun z=>by rcases z.2.2.2 with z|z;contradiction;exact z.1 h5)]
      walk_at "pd" <;> rfl
     ·rw[decide_eq_false h5]
      walk_at "pd"
      by_cases h6:ns.getD (ns.length-1) 0=0
      ·rw[decide_eq_true h6,JF (fun z=>by rcases z.2.2.2 with z|z;contradiction;exact z.2 h6)]
       walk_at "pd" <;> rfl
      ·rw[decide_eq_false h6,JW ⟨h1,h2,h3,.inr ⟨h5,h6⟩⟩]
       walk_at "pd" <;> rfl
   ·rw[decide_eq_true (by omega),JF (fun z=>h3 z.2.2.1)];walk_at "pd" <;> rfl
  ·rw[decide_eq_true (by omega),JF (fun z=>h2 z.2.1)];walk_at "pd" <;> rfl
 ·rw[decide_eq_false h1,JF (fun z=>h1 z.1)];walk_at "pd" <;> rfl
theorem Zjh {ns:List Int} (h:ns.length<=1000000):ZiB.fn [.lst (ns.map PV.int)]=orX (Qu ns) .non:=Pm.fn_eq ZiB ns h fun(a:List Int) e=>by (simp only[ZiB,List.cons.injEq,PV.lst.injEq,PV.int.injEq,PV.str.injEq,PV.bl.injEq,PV.tup.injEq,ZX,and_true] at e ⊢;first|(simp only[e];done)|(subst e;rfl)|(rw[e]))
noncomputable def Ziw:Pm:=⟨Int,fun a=>[.int a],fun a=>0<=a/\a<=10000,fun a=>.ok (.int (kN a:Nat))⟩
theorem ZkL (T:Txt K mg) {f:Addr}{fd:FuncData} (F:Fun K "greatest_step" "greatest_step" Zi0 f fd):Va P w K mg base CX0 1 f fd ["seeds"] (spF K 1 .P W0 Ziw.fn):=by
 refine F.okP Zjn rfl rfl (fun cdv A outer s H E hr=>?_)
 have hu:=hr.units
 refine⟨_,_,⟨[],[],[],.P⟩,rfl,(Zf (ZG (i:=1) Zjn.nd rfl (by first|exact Or.inl rfl|exact Or.inr rfl) Zc)
   (Zf (Vm PassesOwn.never (Zq ZaY (Zr VT (Zr US (Zr ZP (pv 1) Zc) (Zr ZP (pv 1) Zc)) Zc) (pv 0) (Zu _)) (Zk (ZbI (i:=1) Zjn.nd rfl (by first|exact Or.inl rfl|exact Or.inr rfl) Zc Qy)))
   (Zk (Z5 (pv 1))))),
   (Zl (Γm:=[.S,.P]) (Ji (i:=1) Zd (by decide))
   (Zl (Γm:=[.S,.P]) (Vw (Γ:=[.S,.P]) (Zp (DE.toA (Zg1 (DE.toA (ZaH (DE.toA (ZaG (DE.toA (ZR (DE.toA (Zn (i:=1) rfl)) (DE.toA Zd))) (DE.toA (ZR (DE.toA (Zn (i:=1) rfl)) (DE.toA Zd))))) (DE.toA Zd))) (Za (i:=0) (m:=.S) rfl (by decide)))))
   (QZ (i:=1) rfl (DE.toA Zd)))
   (ZK (Zn (i:=1) rfl)))), ?_⟩
 refine Pm.ref Ziw (g:=fun xs=>_) ?_
 rintro(s:Int) ⟨h0,h1⟩
 simp only[Ziw]
 obtain⟨k1,k2,k3⟩:=VA h0
 walk_at "pd"
 generalize hw:JI _ _ _=W
 obtain⟨ρ',rfl,rfl⟩:=Jr hw (kN s) (fun(i:Nat) ρ=>ρ=[.int s,.int i]) rfl (by
  rintro j ρ hj rfl
  constructor
  ·walk_at "pd"
   rw[Zbu,decide_eq_true (by have:=JT (show j+1<=kN s by omega);omega)]
  ·walk_at "pd"
   exact JR (by rw[show ((j+1:Nat):Int)=(j:Int)+1 by omega])) (by
  rintro ρ rfl
  walk_at "pd"
  rw[Zbu,decide_eq_false (by omega)])
 walk_at "pd"
theorem ZiU {s:Int} (h:0<=s/\s<=10000):Ziw.fn [.int s]=.ok (.int (kN s:Nat)):=Pm.fn_eq Ziw s h fun(a:Int) e=>by (simp only[Ziw,List.cons.injEq,PV.lst.injEq,PV.int.injEq,PV.str.injEq,PV.bl.injEq,PV.tup.injEq,ZX,and_true] at e ⊢;first|(simp only[e];done)|(subst e;rfl)|(rw[e]))
theorem ZeG {z:Int}:ZeH id (.int z) (.tup [.int 0,.int 1])=.ok (.bl (decide (z=0\/z=1))):=by
 have h:=ZbX (g:=id) (i:=z) (ns:=[0,1])
 have e:decide (z∈([0,1]:List Int))=decide (z=0\/z=1):=decide_eq_decide.mpr (by simp)
 rw[e] at h
 exact h
noncomputable def Zfy (l:List Int):List Int:=(List.range (kN l.sum+1)).map fun(i:Nat)=>adI l (kN l.sum) i
open Classical in
noncomputable def Zfp (l:List Int):PV:=if Row l then .lst ((Zfy l).map PV.int) else .non
noncomputable def Zit:Pm:=⟨List Int,fun a=>[.lst (a.map PV.int)],fun a=>Zj a,fun a=>.ok (Zfp a)⟩
theorem Zko (T:Txt K mg) {f:Addr}{fd:FuncData} (F:Fun K "added_seeds" "added_seeds" ZiA f fd):Va P w K mg base CX0 2 f fd ["line"] (spF K 1 .F W0 Zit.fn):=by
 have Zlg:=Qc (P:=P) (w:=w) (base:=base) T.ZkZ ZkP (fun F=>ZkL T F)
 refine F.okP ZiL rfl rfl (fun cdv A outer s H E hr=>?_)
 have hu:=hr.units
 refine⟨_,_,⟨[],[],[],.F⟩,rfl,(Zf (ZG (i:=1) ZiL.nd rfl (by first|exact Or.inl rfl|exact Or.inr rfl) (Z4 Zlg (hr.mono (by decide)) rfl (Zb (Zt (Ux (K:=K) rfl) rfl T.z_sum ZcJ (Zb (pv 0) Zh)) Zh)))
   (Zf (Jk (Zq VM (Zt (ZI (K:=K)) rfl T.z_len Jv (Zb (pv 0) Zh)) (Zr ZP (pv 1) Zc) (Zu _)) (Zk (Z5 Zay)) Z9)
   (Zf (ZG (i:=2) ZiL.nd rfl (by first|exact Or.inl rfl|exact Or.inr rfl) (Zr (Zcb (K:=K)) (pv 0) (Zr Za4 (J7 (Zb Zc Zh)) (Zr Vo (Zr ZP (pv 1) Zc) (Zt (ZI (K:=K)) rfl T.z_len Jv (Zb (pv 0) Zh))))))
   (Zf (QO (i:=3) ZiL.nd rfl (Zav (K:=K) rfl T.z_enumerate (Zb (pv 2) Zh)) (Za0 (K:=K) ZiL.nd rfl) (fun _ _ _ _=>ZdZ) (fun _ _ _ _=>(Zr Vo (pv 5) (Zr Vo (pv 1) (pv 4)))) hv2 rfl)
   (Zf (Jk (J6 (JJ (Zt (QD (K:=K) rfl) rfl T.z_all Zem (Zb (UO (UN (K:=K) (pv 3)) (fun _ _ _ _=>(J1 (ZfZ (K:=K) hu) (pv 4) (ZbP (Zb Zc (Zb Zc Zh))) rfl)) ZiL.nd rfl) Zh)))) (Zk (Z5 Zay)) Z9)
   (Zk (Z5 (pv 3)))))))),
   (Zl (Γm:=[.S,.P,.U,.U]) (Ji (i:=1) (ZcO (Zo Z0) (Ze (DE.toA (ZcB (Ze (Za (i:=0) (m:=.S) rfl (by decide)) Zg))) Zg)) (by decide))
   (Zl (Γm:=[.S,.P,.U,.U]) (Jm (Zp (DE.toA (VO (DE.toA (Jt (Ze (Za (i:=0) (m:=.S) rfl (by decide)) Zg))) (DE.toA (ZR (DE.toA (Zn (i:=1) rfl)) (DE.toA Zd))))))
   (Jc (DE.PF Zei))
   ZC)
   (Zl (Γm:=[.S,.P,.O,.U]) (ZU (i:=2) (ZcC (Za (i:=0) (m:=.S) rfl (by decide)) (DE.toA (UX (Ze (DE.toA Zd) Zg) (DE.toA (Vx (DE.toA (ZR (DE.toA (Zn (i:=1) rfl)) (DE.toA Zd))) (DE.toA (Jt (Ze (Za (i:=0) (m:=.S) rfl (by decide)) Zg)))))))) (by decide))
   (Zl (Γm:=[.S,.P,.O,.O]) (QY (i:=3) (ZaI (k:=2) (ZaF (Ze (Za (i:=2) (m:=.O) rfl (by decide)) Zg)) ZhQ Zee (DE.PF (Vx (Za (i:=5) (m:=.S) rfl (by decide)) (DE.toA (Vx (DE.toA (Zn (i:=1) rfl)) (Za (i:=4) (m:=.S) rfl (by decide))))))) (by decide))
   (Zl (Γm:=[.S,.P,.O,.O]) (Jm (J8 (Zbo (DE.toA (Zej (Ze (DE.toA (JY (ZdD (Za (i:=3) (m:=.O) rfl (by decide))) (DE.PF (Zg3 (g:=id) (Za (i:=4) (m:=.S) rfl (by decide)) (Zfc (Ze (DE.toA Zd) (Ze (DE.toA Zd) Zg))))))) Zg)))))
   (Jc (DE.PF Zei))
   ZC)
   (Jc (Vg (i:=3) rfl))))))), ?_⟩
 refine Pm.ref Zit (g:=fun xs=>_) ?_
 rintro(l:List Int) (hl:Zj l)
 simp only[Zit]
 have s0:=Zev hl.1
 have s1:=hl.2.2.1
 have n1:=hl.2.1
 obtain⟨k1,k2,k3⟩:=VA s0
 walk_at "pd"
 rw[ZiU ⟨by omega,by omega⟩]
 walk_at "pd"
 by_cases c:((kN l.sum:Nat):Int)+1<l.length
 ·rw[decide_eq_true c]
  walk_at "pd"
  unfold Zfp
  rw[if_neg]
  intro hr
  have:=VF hl (n:=kN l.sum+1) fun i hi=>hr.z i (by omega)
  omega
 ·rw[decide_eq_false c]
  walk_at "pd"
  generalize hP:l++List.replicate (((kN l.sum:Nat):Int)+1-l.length).toNat 0=P
  have hPl:P.length=kN l.sum+1:=by rw[<- hP,Zmx,Zm1];omega
  have hPg:∀i,P.getD i 0=l.getD i 0:=fun i=>by
   rw[<- hP]
   by_cases e:i<l.length
   ·simp[ZlS,ZlV e]
   ·rw[ZM (ns:=l) (by omega)]
    simp only[ZlS,ZlZ (show l.length<=i by omega),Zm7]
    split<;>rfl
  rw[Q5 (g:=fun i=>.int (adI l (kN l.sum) i)) (fun i hi=>by
   walk_at "pd"
   rw[hPg]
   rfl)]
  rw[QS (by rw[QX,Zmh];omega)]
  walk_at "pd"
  rw[hPl,show (List.range (kN l.sum+1)).map (fun(i:Nat)=>PV.int (adI l (kN l.sum) i))=(Zfy l).map PV.int by unfold Zfy;rw[List.map_map];rfl]
  have hal:(Zfy l).length=kN l.sum+1:=by unfold Zfy;simp
  walk_at "pd"
  rw[Zcl (g:=fun z=>decide (z=0\/z=1)) (fun z _=>by
   walk_at "pd"
   exact ZeG)]
  walk_at "pd"
  rw[ZcK]
  have hiff:(∀x∈Zfy l,x=0\/x=1) ↔ Row l:=by
   constructor
   ·intro hx
    refine⟨k1,k2,fun i hi=>?_,fun i hi=>ZM (by omega)⟩
    have:=hx (adI l (kN l.sum) i) (Zm5.mpr ⟨i,Zmp.mpr (by omega),rfl⟩)
    omega
   ·intro hr x hx
    obtain⟨i,hi,rfl⟩:=Zm5.mp hx
    have:=hr.ad i (by have:=Zmp.mp hi;omega)
    omega
  unfold Zfp
  by_cases hr:Row l
  ·rw[if_pos hr,decide_eq_true (hiff.mpr hr)]
   walk_at "pd"
  ·rw[if_neg hr,decide_eq_false (fun z=>hr (hiff.mp z))]
   walk_at "pd"
theorem ZiD {l:List Int} (h:Zj l):Zit.fn [.lst (l.map PV.int)]=.ok (Zfp l):=Pm.fn_eq Zit l h fun(a:List Int) e=>by (simp only[Zit,List.cons.injEq,PV.lst.injEq,PV.int.injEq,PV.str.injEq,PV.bl.injEq,PV.tup.injEq,ZX,and_true] at e ⊢;first|(simp only[e];done)|(subst e;rfl)|(rw[e]))
theorem J2:Zit.calm:=fun a q h=>by (simp only[Zit] at h;cases h)
noncomputable def Zjl:Pm:=⟨List Int,fun ns=>[.lst (ns.map PV.int)],fun ns=>Zj ns,fun ns=>.ok (.lst ((Zz ns).map PV.int))⟩
theorem ZlG (T:Txt K mg) {f:Addr}{fd:FuncData} (F:Fun K "march" "march" Zka f fd):Va P w K mg base CX0 1 f fd ["line"] (spF K 1 .F W0 Zjl.fn):=by
 refine F.okP ZkS rfl rfl (fun cdv A outer s H E hr=>?_)
 have hu:=hr.units
 refine⟨_,_,⟨[],[],[],.F⟩,rfl,(Zf (Jk (Zq (Je (K:=K) hu) (pv 0) (J7 Zh) (Zu _)) (Zk (Z5 (J7 Zh))) Z9)
   (Zf (ZG (i:=1) ZkS.nd rfl (by first|exact Or.inl rfl|exact Or.inr rfl) (Zr (Zcb (K:=K)) (Zax (Zap (K:=K)) (pv 0) (ZbK Zc) ZbL) (Zr Za4 (J7 (Zb Zc Zh)) (Zr Vo (Zr ZP (ZJ (Zm (K:=K)) (pv 0) Zc (fun _ _=>rfl)) Zc) (Zt (ZI (K:=K)) rfl T.z_len Jv (Zb (pv 0) Zh))))))
   (Zk (Z5 (Zdb (Zav (K:=K) rfl T.z_enumerate (Zb (pv 1) Zh)) (Za0 (K:=K) ZkS.nd rfl) (fun _ _ _ _=>ZdZ) (fun _ _ _ _=>(Zda (Zq ZeO (pv 2) (ZJ (Zm (K:=K)) (pv 0) Zc (fun _ _=>rfl)) (Zu _)) (Zr ZP (pv 3) Zc) (pv 3))) hv2 ZkS.nd rfl))))),
   (Zl (Γm:=[.S,.U]) (Jm (Zp (DE.toA (ZQ (g:=id) (Za (i:=0) (m:=.S) rfl (by decide)) (DE.toA (JH J4)))))
   (Jc (JH J4))
   ZC)
   (Zl (Γm:=[.S,.O]) (ZU (i:=1) (ZcC (DE.toA (Zeg (Za (i:=0) (m:=.S) rfl (by decide)) (Zc6 (DE.toA Zd)) Zc7)) (DE.toA (UX (Ze (DE.toA Zd) Zg) (DE.toA (Vx (DE.toA (ZR (Zv (te:=tC .non) (Za (i:=0) (m:=.S) rfl (by decide)) (DE.toA Zd)) (DE.toA Zd))) (DE.toA (Jt (Ze (Za (i:=0) (m:=.S) rfl (by decide)) Zg)))))))) (by decide))
   (Jc (ZaI (k:=2) (ZaF (Ze (Za (i:=1) (m:=.O) rfl (by decide)) Zg)) ZhQ Zee (DE.PF (Zhp (Zp (DE.toA (Zff (Za (i:=2) (m:=.S) rfl (by decide)) (Zv (te:=tC .non) (Za (i:=0) (m:=.S) rfl (by decide)) (DE.toA Zd))))) (ZR (Za (i:=3) (m:=.S) rfl (by decide)) (DE.toA Zd)) (DE.grd (Za (i:=3) (m:=.S) rfl (by decide))))))))), ?_⟩
 refine Pm.ref Zjl (g:=fun xs=>_) ?_
 intro (ns:List Int) (hk:Zj ns)
 simp only[Zjl]
 have hl:=hk.2.1
 by_cases hz:ns=[]
 ·subst hz
  walk_at "pd"
  rfl
 ·obtain⟨h1,h2⟩:=hk.head hz
  have hp:0<ns.length:=ZmA.mpr hz
  walk_at "pd"
  rw[decide_eq_false hz]
  walk_at "pd"
  rw[Q5 (g:=fun j=>.int (if (j:Int)<ns.getD 0 0 then (ns.drop 1++List.replicate (ns.getD 0 0+1-ns.length).toNat 0).getD j 0+1 else (ns.drop 1++List.replicate (ns.getD 0 0+1-ns.length).toNat 0).getD j 0)) (fun i hi=>by
   walk_at "pd"
   by_cases c:(i:Int)<ns.getD 0 0
   ·rw[decide_eq_true c,if_pos c];walk_at "pd"
   ·rw[decide_eq_false c,if_neg c];walk_at "pd")]
  rw[QS (by unfold VN;rw[List.length_mapIdx,Zmh,Zmx,ZmE,Zm1];omega)]
  walk_at "pd"
  rw[Vq hz,Zbb,List.map_map,ZmE,show (ns.getD 0 0).toNat-(ns.length-1)=(ns.getD 0 0+1-ns.length).toNat by omega]
  congr 2
  apply ZmC
  intro j hj
  simp only[Function.comp_apply]
  by_cases c:(j:Int)<ns.getD 0 0
  ·rw[if_pos c,if_pos (by omega)]
  ·rw[if_neg c,if_neg (by omega)]
theorem Zlb {ns:List Int} (h:Zj ns):Zjl.fn [.lst (ns.map PV.int)]=.ok (.lst ((Zz ns).map PV.int)):=Pm.fn_eq Zjl ns h fun(a:List Int) e=>by (simp only[Zjl,List.cons.injEq,PV.lst.injEq,PV.int.injEq,PV.str.injEq,PV.bl.injEq,PV.tup.injEq,ZX,and_true] at e ⊢;first|(simp only[e];done)|(subst e;rfl)|(rw[e]))
theorem Zdc:Zjl.calm:=fun a q h=>by (simp only[Zjl] at h;cases h)
noncomputable def Zjg:Pm:=⟨List Int×Int,fun a=>[.lst (a.1.map PV.int),.int a.2],fun a=>0<a.1.length/\a.1.length<=1000,fun a=>.ok (.lst ((Jw a.1 a.2).map PV.int))⟩
theorem Zl9 (T:Txt K mg) {f:Addr}{fd:FuncData} (F:Fun K "turn_by" "turn_by" Zjm f fd):Va P w K mg base CX0 1 f fd ["board", "k"] (spF K 2 .F W0 Zjg.fn):=by
 refine F.okP Zk6 rfl rfl (fun cdv A outer s H E hr=>?_)
 have hu:=hr.units
 refine⟨_,_,⟨[],[],[],.F⟩,rfl,(Zf (ZG (i:=2) Zk6.nd rfl (by first|exact Or.inl rfl|exact Or.inr rfl) (Zt (ZI (K:=K)) rfl T.z_len Jv (Zb (pv 0) Zh)))
   (Zk (Z5 (UO (Jg rfl T.z_range (Zb (pv 2) Zh)) (fun _ _ _ _=>(ZJ (Zm (K:=K)) (pv 0) (Zr ZW (Zr Vo (pv 3) (pv 1)) (pv 2)) (fun _ _=>rfl))) Zk6.nd rfl)))),
   (Zl (Γm:=[.S,.S,.P]) (Ji (i:=2) (Jt (Ze (Za (i:=0) (m:=.S) rfl (by decide)) Zg)) (by decide))
   (Jc (JY (DI.c (JG (Ze (DE.toA (Zn (i:=2) rfl)) Zg))) (DE.PF (DE.grd (Zv (te:=tC .non) (Za (i:=0) (m:=.S) rfl (by decide)) (DE.toA (ZY (DE.toA (Vx (Za (i:=3) (m:=.S) rfl (by decide)) (Za (i:=1) (m:=.S) rfl (by decide)))) (DE.toA (Zn (i:=2) rfl)))))))))), ?_⟩
 refine Pm.ref Zjg (g:=fun xs=>_) ?_
 rintro⟨bs,k⟩ ⟨h0,h1⟩
 simp only at h0 h1
 simp only[Zjg]
 walk_at "pd"
 rw[V8 (g:=fun x=>bs.getD (((x:Int)-k)%bs.length).toNat 0) (fun i hi=>by
  have y0:=ZmI ((i:Int)-k) (show (bs.length:Int)≠0 by omega)
  have y1:=Zm6 ((i:Int)-k) (show (0:Int)<bs.length by omega)
  rw[Znn]
  walk_at "pd")]
 walk_at "pd"
 rfl
theorem ZjL {bs:List Int}{k:Int} (h:0<bs.length/\bs.length<=1000):Zjg.fn [.lst (bs.map PV.int),.int k]=.ok (.lst ((Jw bs k).map PV.int)):=Pm.fn_eq Zjg (bs,k) h fun(a:List Int×Int) e=>by (simp only[Zjg,List.cons.injEq,PV.lst.injEq,PV.int.injEq,PV.str.injEq,PV.bl.injEq,PV.tup.injEq,ZX,and_true] at e ⊢;first|(simp only[e];done)|(subst e;rfl)|(rw[e]))
noncomputable def Zip:Pm:=⟨List Int,fun a=>[.lst (a.map PV.int)],fun a=>0<a.length/\a.length<=1000,fun a=>.ok (.int (VS a:Nat))⟩
theorem ZkB (T:Txt K mg) {f:Addr}{fd:FuncData} (F:Fun K "turn_to_itself" "turn_to_itself" Ziu f fd):Va P w K mg base CX0 2 f fd ["board"] (spF K 1 .P W0 Zip.fn):=by
 have ZlF:=Qc (P:=P) (w:=w) (base:=base) T.ZlE ZlC (fun F=>Zl9 T F)
 refine F.okP Zjk rfl rfl (fun cdv A outer s H E hr=>?_)
 have hu:=hr.units
 refine⟨_,_,⟨[],[],[],.P⟩,rfl,(Zf (ZG (i:=1) Zjk.nd rfl (by first|exact Or.inl rfl|exact Or.inr rfl) Zc)
   (Zf (Vm PassesOwn.never (Zq (Uk (K:=K) hu) (Z4 ZlF (hr.mono (by decide)) rfl (Zb (pv 0) (Zb (pv 1) Zh))) (pv 0) (Zu _)) (Zk (ZbI (i:=1) Zjk.nd rfl (by first|exact Or.inl rfl|exact Or.inr rfl) Zc Qy)))
   (Zk (Z5 (pv 1))))),
   (Zl (Γm:=[.S,.P]) (Ji (i:=1) Zd (by decide))
   (Zl (Γm:=[.S,.P]) (Vw (Γ:=[.S,.P]) (Zp (DE.toA (ZQ (g:=(!·)) (DE.toA (Zfw (Zo (Zo Z0)) (Ze (Za (i:=0) (m:=.S) rfl (by decide)) (Ze (DE.toA (Zn (i:=1) rfl)) Zg)))) (Za (i:=0) (m:=.S) rfl (by decide)))))
   (QZ (i:=1) rfl (DE.toA Zd)))
   (ZK (Zn (i:=1) rfl)))), ?_⟩
 refine Pm.ref Zip (g:=fun xs=>_) ?_
 rintro(bs:List Int) ⟨h0,h1⟩
 simp only[Zip]
 obtain⟨o1,o2,o3⟩:=Qs h0
 have o4:1<=VS bs:=by unfold VS;omega
 generalize VS bs=t at o1 o2 o3 o4
 walk_at "pd"
 generalize hw:JI _ _ _=W
 obtain⟨ρ',rfl,rfl⟩:=Jr hw (t-1) (fun(i:Nat) ρ=>ρ=[.lst (bs.map PV.int),.int ((i:Int)+1)]) rfl (by
  rintro j ρ hj rfl
  constructor
  ·walk_at "pd"
   rw[ZjL ⟨h0,h1⟩]
   walk_at "pd"
   rw[decide_eq_false (o3 j (by omega))]
   rfl
  ·walk_at "pd"
   exact JR (by rw[show ((j+1:Nat):Int)=(j:Int)+1 by omega])) (by
  rintro ρ rfl
  rw[show ((t-1:Nat):Int)+1=t by omega]
  walk_at "pd"
  rw[ZjL ⟨h0,h1⟩]
  walk_at "pd"
  rw[decide_eq_true o1]
  rfl)
 walk_at "pd"
 rw[show ((t-1:Nat):Int)+1=t by omega]
theorem ZiK {bs:List Int} (h:0<bs.length/\bs.length<=1000):Zip.fn [.lst (bs.map PV.int)]=.ok (.int (VS bs:Nat)):=Pm.fn_eq Zip bs h fun(a:List Int) e=>by (simp only[Zip,List.cons.injEq,PV.lst.injEq,PV.int.injEq,PV.str.injEq,PV.bl.injEq,PV.tup.injEq,ZX,and_true] at e ⊢;first|(simp only[e];done)|(subst e;rfl)|(rw[e]))
theorem V6:Zip.calm:=fun a q h=>by (simp only[Zip] at h;cases h)
open Classical in
noncomputable def Ua (l:List Int):Nat:=if h:∃n,Row (mIt n l)/\∀j,j<n->¬Row (mIt j l) then h.choose else 0
theorem JU {l:List Int} (h:Zj l):Row (mIt (Ua l) l)/\∀j,j<Ua l->¬Row (mIt j l):=by
 have hc:=ZcD h
 unfold Ua
 rw[dif_pos hc]
 exact hc.choose_spec
noncomputable def ZaM (l:List Int):PV:=.tup [.int (Ua l:Nat),.lst ((mIt (Ua l) l).map PV.int),.int (VS (Qd (mIt (Ua l) l)):Nat)]
noncomputable def ZiO:Pm:=⟨List Int,fun a=>[.lst (a.map PV.int)],fun a=>a.length<=100000,fun a=>orX (Qu a) (ZaM a)⟩
theorem Zl0 (T:Txt K mg) {f:Addr}{fd:FuncData} (F:Fun K "comes_to" "comes_to" Zjf f fd):Va P w K mg base (CX1 P w) 5 f fd ["line"] (spF K 1 .F (W1 K) ZiO.fn):=by
 have Zkl:=Zdq (P:=P) (w:=w) (base:=base) T.ZkH Zk3 (fun F=>Zk0 T F)
 have Zju:=Qc (P:=P) (w:=w) (base:=base) T.Zk2 Zkp (fun F=>Zko T F)
 have ZlO:=Qc (P:=P) (w:=w) (base:=base) T.ZlM ZlI (fun F=>ZlG T F)
 have ZkR:=Qc (P:=P) (w:=w) (base:=base) T.ZkN ZkE (fun F=>ZkB T F)
 refine F.okX Zjv rfl rfl (fun cdv A outer s H E hr=>?_)
 have hu:=hr.units
 refine⟨_,_,⟨[],[],[],.F⟩,rfl,(Zf (V4 (JV Zkl (hr.mono (by decide)) rfl ZbQ (Zb (pv 0) Zh)))
   (Zf (ZG (i:=1) Zjv.nd rfl (by first|exact Or.inl rfl|exact Or.inr rfl) Zc)
   (Zf (ZG (i:=2) Zjv.nd rfl (by first|exact Or.inl rfl|exact Or.inr rfl) (JP (JA (K:=K)) rfl T.z_list Vj (Zb (pv 0) Zh)))
   (Zf (PS.nox (Vm PassesOwn.never (Zq ZfY (Z4 Zju (hr.mono (by decide)) rfl (Zb (pv 2) Zh)) Zay (Zu _)) (Zf (ZG (i:=2) Zjv.nd rfl (by first|exact Or.inl rfl|exact Or.inr rfl) (Z4 ZlO (hr.mono (by decide)) rfl (Zb (pv 2) Zh)))
   (Zk (ZbI (i:=1) Zjv.nd rfl (by first|exact Or.inl rfl|exact Or.inr rfl) Zc Qy)))))
   (Zk (Z5 (ZbP (Zb (pv 1) (Zb (pv 2) (Zb (Z4 ZkR (hr.mono (by decide)) rfl (Zb (Z4 Zju (hr.mono (by decide)) rfl (Zb (pv 2) Zh)) Zh)) Zh)))))))))),
   (Zl (Γm:=[.S,.U,.U]) (Zc4 (DE.toA (ZhP (Zo Z0) (Ze (Za (i:=0) (m:=.S) rfl (by decide)) Zg))))
   (Zl (Γm:=[.S,.P,.U]) (Ji (i:=1) Zd (by decide))
   (Zl (Γm:=[.S,.P,.O]) (ZU (i:=2) (Vy (Ze (Za (i:=0) (m:=.S) rfl (by decide)) Zg)) (by decide))
   (Zl (Γm:=[.S,.P,.O]) (Vw (Γ:=[.S,.P,.O]) (Zp (DE.toA (Zg2 (DE.toA (ZgL (Zo Z0) (Pm.calm_fn J2) (Ze (Za (i:=2) (m:=.O) rfl (by decide)) Zg))))))
   (Zl (Γm:=[.S,.P,.O]) (ZU (i:=2) (ZgL (Zo Z0) (Pm.calm_fn Zdc) (Ze (Za (i:=2) (m:=.O) rfl (by decide)) Zg)) (by decide))
   (QZ (i:=1) rfl (DE.toA Zd))))
   (Jc (ZcA (Jp (DE.PF (Zn (i:=1) rfl)) (ZdG (i:=2) rfl (ZhO (Zo Z0) (Pm.calm_fn V6) (Ze (DE.toA (ZgL (Zo Z0) (Pm.calm_fn J2) (Ze (Za (i:=2) (m:=.O) rfl (by decide)) Zg))) Zg)))))))))), ?_⟩
 refine Pm.ref ZiO (g:=fun xs=>_) ?_
 rintro(l:List Int) (hl:l.length<=100000)
 simp only[ZiO]
 walk_at "pd"
 rw[Zjh (by omega)]
 by_cases h:Zj l
 ·rw[JW h]
  simp only[orX]
  have n1:=h.2.1
  obtain⟨hn,hlt⟩:=JU h
  unfold ZaM
  generalize Ua l=n at hn hlt
  have addT:∀{r:List Int},Row r->Zfp r=.lst ((Qd r).map PV.int):=fun {r} hr=>if_pos hr
  have addF:∀{r:List Int},¬Row r->Zfp r=.non:=fun {r} hr=>if_neg hr
  walk_at "pd"
  generalize hw:JI _ _ _=W
  obtain⟨ρ',rfl,rfl⟩:=Jr hw n (fun(i:Nat) ρ=>ρ=[.lst (l.map PV.int),.int i,.lst ((mIt i l).map PV.int)]) rfl (by
   rintro i ρ hi rfl
   have hik:=ZH h i
   constructor
   ·walk_at "pd"
    rw[ZiD hik,addF (hlt i (by omega))]
    walk_at "pd"
   ·walk_at "pd"
    rw[Zlb hik]
    walk_at "pd"
    exact JR (by rw[show ((i+1:Nat):Int)=(i:Int)+1 by omega];rfl)) (by
   rintro ρ rfl
   walk_at "pd"
   rw[ZiD (ZH h n),addT hn]
   walk_at "pd")
  have hnk:=ZH h n
  have hal:=Qb (mIt n l)
  have hks:=(VA (L2.sum_nn hnk.1)).2.2
  have hks2:=hnk.2.2.1
  walk_at "pd"
  rw[ZiD hnk,addT hn]
  walk_at "pd"
  rw[ZiK ⟨by omega,by omega⟩]
  walk_at "pd"
 ·rw[JF h]
  simp only[orX]
  walk_at "pd"
theorem ZjN {l:List Int} (h:l.length<=100000):ZiO.fn [.lst (l.map PV.int)]=orX (Qu l) (ZaM l):=Pm.fn_eq ZiO l h fun(a:List Int) e=>by (simp only[ZiO,List.cons.injEq,PV.lst.injEq,PV.int.injEq,PV.str.injEq,PV.bl.injEq,PV.tup.injEq,ZX,and_true] at e ⊢;first|(simp only[e];done)|(subst e;rfl)|(rw[e]))
noncomputable def Zi2:Pm:=⟨List Int×Int,fun a=>[.lst (a.1.map PV.int),.int a.2],fun a=>a.1.length<=1000/\0<a.2/\a.2<=1000,fun a=>.ok (.lst ((ZaZ a.1 a.2.toNat).map PV.int))⟩
theorem ZkV (T:Txt K mg) {f:Addr}{fd:FuncData} (F:Fun K "_law_numbers" "_law_numbers" Zi4 f fd):Va P w K mg base CX0 1 f fd ["script", "many"] (spF K 2 .F W0 Zi2.fn):=by
 refine F.okP Zi6 rfl rfl (fun cdv A outer s H E hr=>?_)
 have hu:=hr.units
 refine⟨_,_,⟨[],[],[],.F⟩,rfl,(Zf (ZG (i:=2) Zi6.nd rfl (by first|exact Or.inl rfl|exact Or.inr rfl) (J7 Zh))
   (Zf (ZG (i:=3) Zi6.nd rfl (by first|exact Or.inl rfl|exact Or.inr rfl) Zc)
   (Zf (Jk (Zq VM (Zt (ZI (K:=K)) rfl T.z_len Jv (Zb (pv 0) Zh)) Zc (Zu _)) (Zk (ZG (i:=3) Zi6.nd rfl (by first|exact Or.inl rfl|exact Or.inr rfl) (Zr ZP Zc (Zr ZW (ZJ (Zm (K:=K)) (pv 0) Zc (fun _ _=>rfl)) Zc)))) Z9)
   (Zf (Ui PassesOwn.never rfl (Jg rfl T.z_range (Zb (pv 1) Zh)) (JE (i:=4) Zi6.nd rfl (by first|exact Or.inl rfl|exact Or.inr rfl)) (Zf (ZG (i:=3) Zi6.nd rfl (by first|exact Or.inl rfl|exact Or.inr rfl) (Zr ZW (Zr US (pv 3) Zc) Zc))
   (Zk (V4 (Ze9 PySem.F.plainAttrs_list PySem.F.slot_list_append PySem.F.type_list_append Ul (pv 2) (Zb (Zr ZW (Zr VT (pv 3) Zc) Zc) Zh))))))
   (Zf (Ui PassesOwn.never rfl (Jg rfl T.z_range (Zb (Zt (ZI (K:=K)) rfl T.z_len Jv (Zb (pv 0) Zh)) Zh)) (JE (i:=4) Zi6.nd rfl (by first|exact Or.inl rfl|exact Or.inr rfl)) (Zk (U5 (Zr ZW (Zr ZP (ZJ (Zm (K:=K)) (pv 2) (Zr ZW (pv 4) (pv 1)) (fun _ _=>rfl)) (ZJ (Zm (K:=K)) (pv 0) (pv 4) (fun _ _=>rfl))) Zc) (U6 (pv 2) (Zr ZW (pv 4) (pv 1)) Jz))))
   (Zk (Z5 (pv 2)))))))),
   (Zl (Γm:=[.S,.S,.O,.U,.U]) (ZU (i:=2) (JH J4) (by decide))
   (Zl (Γm:=[.S,.S,.O,.P,.U]) (Ji (i:=3) Zd (by decide))
   (Zl (Γm:=[.S,.S,.O,.P,.U]) (Jm (Zp (DE.toA (VO (DE.toA (Jt (Ze (Za (i:=0) (m:=.S) rfl (by decide)) Zg))) (DE.toA Zd))))
   (Ji (i:=3) (ZR (DE.toA Zd) (DE.toA (ZY (Zv (te:=tC .non) (Za (i:=0) (m:=.S) rfl (by decide)) (DE.toA Zd)) (DE.toA Zd)))) (by decide))
   ZC)
   (Zl (Γm:=[.S,.S,.O,.P,.U]) (Uu (Γl:=[.S,.S,.O,.P,.U]) (JG (Ze (Za (i:=1) (m:=.S) rfl (by decide)) Zg)) rfl (Zfb (i:=4) (by decide))
   (DS.out (Y:=⟨[.S,.S,.O,.P,.P],[.S,.S,.O,.P,.U],[.S,.S,.O,.P,.U],.F⟩) (Y':=⟨[.S,.S,.O,.P,.U],[.S,.S,.O,.P,.U],[.S,.S,.O,.P,.U],.F⟩) (Zl (Γm:=[.S,.S,.O,.P,.P]) (Ji (i:=3) (ZY (DE.toA (ZaG (DE.toA (Zn (i:=3) rfl)) (DE.toA Zd))) (DE.toA Zd)) (by decide))
   (Zc5 (i:=2) rfl rfl (DE.PF (ZY (DE.toA (ZaH (DE.toA (Zn (i:=3) rfl)) (DE.toA Zd))) (DE.toA Zd))))) rfl rfl rfl rfl))
   (Zl (Γm:=[.S,.S,.O,.P,.U]) (Uu (Γl:=[.S,.S,.O,.P,.U]) (JG (Ze (DE.toA (Jt (Ze (Za (i:=0) (m:=.S) rfl (by decide)) Zg))) Zg)) rfl (Zfb (i:=4) (by decide))
   (DS.out (Y:=⟨[.S,.S,.O,.P,.P],[.S,.S,.O,.P,.U],[.S,.S,.O,.P,.U],.F⟩) (Y':=⟨[.S,.S,.O,.P,.U],[.S,.S,.O,.P,.U],[.S,.S,.O,.P,.U],.F⟩) (J9 (i:=2) rfl (ZY (DE.toA (ZR (Zv (te:=tC .non) (Za (i:=2) (m:=.O) rfl (by decide)) (DE.toA (ZY (DE.toA (Zn (i:=4) rfl)) (Za (i:=1) (m:=.S) rfl (by decide))))) (Zv (te:=tC .non) (Za (i:=0) (m:=.S) rfl (by decide)) (DE.toA (Zn (i:=4) rfl))))) (DE.toA Zd)) (DE.toA (ZY (DE.toA (Zn (i:=4) rfl)) (Za (i:=1) (m:=.S) rfl (by decide))))) rfl rfl rfl rfl))
   (Jc (Vg (i:=2) rfl))))))), ?_⟩
 refine Pm.ref Zi2 (g:=fun xs=>_) ?_
 rintro⟨ns,m⟩ ⟨hn,h0,h1⟩
 simp only at hn h0 h1
 simp only[Zi2]
 have hst:Jy ns=if 0<ns.length then 1+ns.getD 0 0%2147483646 else 1:=rfl
 walk_at "pd"
 by_cases hz:0<ns.length
 ·rw[if_pos hz] at hst
  rw[decide_eq_true (by omega)]
  walk_at "pd"
  rw[<- hst]
  clear hst
  generalize hw:U2 _ _ _=W
  obtain⟨ρ',rfl,v,rfl⟩:=Jl hw (fun i ρ=>∃v,ρ=[.lst (ns.map PV.int),.int m,.lst ((Zbn (Jy ns) i).map PV.int),.int (Uf (Jy ns) i),v]) ⟨_,rfl⟩ (by
   rintro i x ρ hx ⟨v,rfl⟩
   obtain⟨hi,rfl⟩:=Jo hx
   have hb:=Zao (Qo ns) i
   have hl:(Zbn (Jy ns) i).length=i:=Vf _ _
   walk_at "pd"
   exact JR ⟨_,by rw[Q2,L2.Uf]⟩)
  walk_at "pd"
  rw[Jb]
  generalize hw:U2 _ _ _=W
  obtain⟨ρ',rfl,v,rfl⟩:=Jl hw (fun i ρ=>∃v,ρ=[.lst (ns.map PV.int),.int m,.lst ((Q4 (Zbn (Jy ns) m.toNat) ns m.toNat i).map PV.int),.int (Uf (Jy ns) m.toNat),v]) ⟨_,rfl⟩ (by
   rintro i x ρ hx ⟨v,rfl⟩
   obtain⟨hi,rfl⟩:=Jo hx
   have hl:(Q4 (Zbn (Jy ns) m.toNat) ns m.toNat i).length=m.toNat:=by rw[VH,Vf]
   have m0:=ZmI (0+(i:Int)) (show m≠0 by omega)
   have m1:=Zm6 (0+(i:Int)) h0
   have e:((0+(i:Int))%m).toNat=i%m.toNat:=by
    have:((i%m.toNat:Nat):Int)=(0+(i:Int))%m:=by rw[Int.natCast_emod,Znj (by omega),Znn]
    omega
   walk_at "pd"
   exact JR ⟨_,by rw[Q4,e,show (0+(i:Int)).toNat=i by omega]⟩)
  walk_at "pd"
  rw[Jb,show (ns.length:Int).toNat=ns.length by omega]
  rfl
 ·rw[if_neg hz] at hst
  rw[decide_eq_false (by omega)]
  walk_at "pd"
  have hz2:ns=[]:=List.eq_nil_of_length_eq_zero (by omega)
  subst hz2
  generalize hw:U2 _ _ _=W
  obtain⟨ρ',rfl,v,rfl⟩:=Jl hw (fun i ρ=>∃v,ρ=[.lst [],.int m,.lst ((Zbn (Jy []) i).map PV.int),.int (Uf (Jy []) i),v]) ⟨_,by rw[hst];rfl⟩ (by
   rintro i x ρ hx ⟨v,rfl⟩
   obtain⟨hi,rfl⟩:=Jo hx
   have hb:=Zao (Qo []) i
   have hl:(Zbn (Jy []) i).length=i:=Vf _ _
   walk_at "pd"
   exact JR ⟨_,by rw[Q2,L2.Uf]⟩)
  walk_at "pd"
  rw[Jb]
  rfl
theorem ZiX {ns:List Int}{m:Int} (h:ns.length<=1000/\0<m/\m<=1000):Zi2.fn [.lst (ns.map PV.int),.int m]=.ok (.lst ((ZaZ ns m.toNat).map PV.int)):=Pm.fn_eq Zi2 (ns,m) h fun(a:List Int×Int) e=>by (simp only[Zi2,List.cons.injEq,PV.lst.injEq,PV.int.injEq,PV.str.injEq,PV.bl.injEq,PV.tup.injEq,ZX,and_true] at e ⊢;first|(simp only[e];done)|(subst e;rfl)|(rw[e]))
open Classical in
noncomputable def ZgH (l:List Int):Bool:=decide (Row l)
theorem ZdT {l:List Int} (h:Row l):ZgH l=true:=by classical exact decide_eq_true h
theorem ZbA {l:List Int} (h:¬Row l):ZgH l=false:=by classical exact decide_eq_false h
noncomputable def Zix:Pm:=⟨List Int,fun a=>[.lst (a.map PV.int)],fun a=>Zj a,fun a=>.ok (.bl (ZgH a))⟩
theorem ZkM (T:Txt K mg) {f:Addr}{fd:FuncData} (F:Fun K "_law_marching" "_law_marching" Zi1 f fd):Va P w K mg base CX0 1 f fd ["line"] (spF K 1 .P W0 Zix.fn):=by
 refine F.okP Zi8 rfl rfl (fun cdv A outer s H E hr=>?_)
 have hu:=hr.units
 refine⟨_,_,⟨[],[],[],.P⟩,rfl,(Zf (ZG (i:=1) Zi8.nd rfl (by first|exact Or.inl rfl|exact Or.inr rfl) Zc)
   (Zf (Vm PassesOwn.never (Zq ZaY (Zr US (Zr ZP (pv 1) Zc) (Zr ZP (pv 1) Zc)) (Zr US Zc (Zt (Ux (K:=K) rfl) rfl T.z_sum ZcJ (Zb (pv 0) Zh))) (Zu _)) (Zk (ZG (i:=1) Zi8.nd rfl (by first|exact Or.inl rfl|exact Or.inr rfl) (Zr ZP (pv 1) Zc))))
   (Zf (Jk (Zq VM (Zt (ZI (K:=K)) rfl T.z_len Jv (Zb (pv 0) Zh)) (Zr ZP (pv 1) Zc) (Zu _)) (Zk (Z5 V5)) Z9)
   (Zf (Ui PassesOwn.never rfl (Jg rfl T.z_range (Zb (Zr ZP (pv 1) Zc) Zh)) (JE (i:=2) Zi8.nd rfl (by first|exact Or.inl rfl|exact Or.inr rfl)) (Zf (ZG (i:=3) Zi8.nd rfl (by first|exact Or.inl rfl|exact Or.inr rfl) Zc)
   (Zf (Jk (Zq ZeO (pv 2) (Zt (ZI (K:=K)) rfl T.z_len Jv (Zb (pv 0) Zh)) (Zu _)) (Zk (ZG (i:=3) Zi8.nd rfl (by first|exact Or.inl rfl|exact Or.inr rfl) (ZJ (Zm (K:=K)) (pv 0) (pv 2) (fun _ _=>rfl)))) Z9)
   (Zk (Jk (PW.pt (Uh (Zq (Uk (K:=K) hu) (Zr ZP (Zr Vo (pv 3) (pv 1)) (pv 2)) Zc (Zu _)) (Vc (Zq (Uk (K:=K) hu) (Zr ZP (Zr Vo (pv 3) (pv 1)) (pv 2)) Zc (Zu _))))) (Zk (Z5 V5)) Z9)))))
   (Zk (Z5 V5)))))),
   (Zl (Γm:=[.S,.P,.U,.U]) (Ji (i:=1) Zd (by decide))
   (Zl (Γm:=[.S,.P,.U,.U]) (Vw (Γ:=[.S,.P,.U,.U]) (Zp (DE.toA (Zg1 (DE.toA (ZaG (DE.toA (ZR (DE.toA (Zn (i:=1) rfl)) (DE.toA Zd))) (DE.toA (ZR (DE.toA (Zn (i:=1) rfl)) (DE.toA Zd))))) (DE.toA (ZaG (DE.toA Zd) (DE.toA (ZcB (Ze (Za (i:=0) (m:=.S) rfl (by decide)) Zg))))))))
   (Ji (i:=1) (ZR (DE.toA (Zn (i:=1) rfl)) (DE.toA Zd)) (by decide)))
   (Zl (Γm:=[.S,.P,.U,.U]) (Jm (Zp (DE.toA (VO (DE.toA (Jt (Ze (Za (i:=0) (m:=.S) rfl (by decide)) Zg))) (DE.toA (ZR (DE.toA (Zn (i:=1) rfl)) (DE.toA Zd))))))
   (ZK VD)
   ZC)
   (Zl (Γm:=[.S,.P,.U,.U]) (Uu (Γl:=[.S,.P,.U,.U]) (JG (Ze (DE.toA (ZR (DE.toA (Zn (i:=1) rfl)) (DE.toA Zd))) Zg)) rfl (Zfb (i:=2) (by decide))
   (DS.out (Y:=⟨[.S,.P,.P,.P],[.S,.P,.U,.U],[.S,.P,.U,.U],.P⟩) (Y':=⟨[.S,.P,.U,.U],[.S,.P,.U,.U],[.S,.P,.U,.U],.P⟩) (Zl (Γm:=[.S,.P,.P,.P]) (Ji (i:=3) Zd (by decide))
   (Zl (Γm:=[.S,.P,.P,.P]) (Jm (Zp (DE.toA (Zff (DE.toA (Zn (i:=2) rfl)) (DE.toA (Jt (Ze (Za (i:=0) (m:=.S) rfl (by decide)) Zg))))))
   (Ji (i:=3) (DE.grd (Zv (te:=tC .non) (Za (i:=0) (m:=.S) rfl (by decide)) (DE.toA (Zn (i:=2) rfl)))) (by decide))
   ZC)
   (Jm (Ut (Zp (DE.toA (ZQ (g:=(!·)) (DE.toA (ZR (DE.toA (Vx (DE.toA (Zn (i:=3) rfl)) (DE.toA (Zn (i:=1) rfl)))) (DE.toA (Zn (i:=2) rfl)))) (DE.toA Zd)))) (Zp (DE.toA (ZQ (g:=(!·)) (DE.toA (ZR (DE.toA (Vx (DE.toA (Zn (i:=3) rfl)) (DE.toA (Zn (i:=1) rfl)))) (DE.toA (Zn (i:=2) rfl)))) (DE.toA Zd)))))
   (ZK VD)
   ZC))) rfl rfl rfl rfl))
   (ZK VD))))), ?_⟩
 refine Pm.ref Zix (g:=fun xs=>_) ?_
 rintro(l:List Int) (hl:Zj l)
 simp only[Zix]
 have s0:=L2.sum_nn hl.1
 have s1:=hl.2.2.1
 have n1:=hl.2.1
 obtain⟨k1,k2,k3⟩:=VA s0
 walk_at "pd"
 generalize hw:JI _ _ _=W
 obtain⟨ρ',rfl,rfl⟩:=Jr hw (kN l.sum) (fun(i:Nat) ρ=>ρ=[.lst (l.map PV.int),.int i,.non,.non]) rfl (by
  rintro i ρ hi rfl
  have t1:=VZ (i+1)
  have t2:=JT (show i+1<=kN l.sum by omega)
  constructor
  ·walk_at "pd"
   rw[decide_eq_true]
   rw[show ((i:Int)+1)*(i+2)=((i+1:Nat):Int)*(((i+1:Nat):Int)+1) by push_cast;rfl,<- t1]
   omega
  ·walk_at "pd"
   exact JR rfl) (by
  rintro ρ rfl
  have t1:=VZ (kN l.sum+1)
  walk_at "pd"
  rw[decide_eq_false]
  rw[show (((kN l.sum:Nat):Int)+1)*((kN l.sum:Nat)+2)=((kN l.sum+1:Nat):Int)*(((kN l.sum+1:Nat):Int)+1) by push_cast;rfl,<- t1]
  omega)
 walk_at "pd"
 by_cases c:((kN l.sum:Nat):Int)+1<l.length
 ·rw[decide_eq_true c]
  walk_at "pd"
  rw[ZbA]
  intro hr
  have:=VF hl (n:=kN l.sum+1) fun i hi=>hr.z i (by omega)
  omega
 ·rw[decide_eq_false c]
  walk_at "pd"
  generalize hw:U2 _ _ _=W
  have rowI:(∀i,i<=kN l.sum->adI l (kN l.sum) i=0\/adI l (kN l.sum) i=1)->Row l:=fun hx=>⟨k1,k2,fun i hi=>by have:=hx i hi;omega,fun i hi=>ZM (by omega)⟩
  by_cases hr:Row l
  ·rw[ZdT hr]
   obtain⟨ρ',rfl,v2,v3,rfl⟩:=Jl hw (fun i ρ=>∃v2 v3,ρ=[.lst (l.map PV.int),.int (kN l.sum:Nat),v2,v3]) ⟨_,_,rfl⟩ (by
    rintro i x ρ hx ⟨v2,v3,rfl⟩
    obtain⟨hi,rfl⟩:=Jo hx
    have had:=hr.ad i (by omega)
    unfold adI at had
    by_cases e:i<l.length
    ·walk_at "pd"
     rw[decide_eq_true (show 0+(i:Int)<l.length by omega)]
     walk_at "pd"
     rw[show (0+(i:Int)).toNat=i by omega]
     rcases (show l.getD i 0-(kN l.sum:Nat)+(0+(i:Int))=0\/l.getD i 0-(kN l.sum:Nat)+(0+(i:Int))=1 by omega) with z|z<;>rw[z]<;>walk_at "pd" <;> exact JR ⟨_,_,rfl⟩
    ·rw[ZM (by omega)] at had
     walk_at "pd"
     rw[decide_eq_false (show ¬0+(i:Int)<l.length by omega)]
     walk_at "pd"
     rcases (show 0-((kN l.sum:Nat):Int)+(0+(i:Int))=0\/0-((kN l.sum:Nat):Int)+(0+(i:Int))=1 by omega) with z|z<;>rw[z]<;>walk_at "pd" <;> exact JR ⟨_,_,rfl⟩)
   walk_at "pd"
  ·rw[ZbA hr]
   have hex:∃n,n<=kN l.sum/\¬(adI l (kN l.sum) n=0\/adI l (kN l.sum) n=1)/\∀j,j<n->adI l (kN l.sum) j=0\/adI l (kN l.sum) j=1:=by
    have key:∀n,n<=kN l.sum->¬(adI l (kN l.sum) n=0\/adI l (kN l.sum) n=1)->∃n,n<=kN l.sum/\¬(adI l (kN l.sum) n=0\/adI l (kN l.sum) n=1)/\∀j,j<n->adI l (kN l.sum) j=0\/adI l (kN l.sum) j=1:=by
     intro n
     induction n using Nat.strongRecOn with
     |ind n ih =>
      intro hn he
      by_cases c:∃j,j<n/\¬(adI l (kN l.sum) j=0\/adI l (kN l.sum) j=1)
      ·obtain⟨j,hj,hr'⟩:=c
       exact ih j hj (by omega) hr'
      ·exact⟨n,hn,he,fun j hj=>Classical.byContradiction fun hr'=>c ⟨j,hj,hr'⟩⟩
    by_cases c2:∃n,n<=kN l.sum/\¬(adI l (kN l.sum) n=0\/adI l (kN l.sum) n=1)
    ·obtain⟨n,h1,h2⟩:=c2
     exact key n h1 h2
    ·exact absurd (rowI fun i hi=>Classical.byContradiction fun q=>c2 ⟨i,hi,q⟩) hr
   obtain⟨n,hn,hbad,hgood⟩:=hex
   have:=Zcz hw n (fun i ρ=>∃v2 v3,ρ=[.lst (l.map PV.int),.int (kN l.sum:Nat),v2,v3]) ⟨_,_,rfl⟩ (by
    rintro i x ρ hin hx ⟨v2,v3,rfl⟩
    obtain⟨hi,rfl⟩:=Jo hx
    have had:=hgood i hin
    unfold adI at had
    by_cases e:i<l.length
    ·walk_at "pd"
     rw[decide_eq_true (show 0+(i:Int)<l.length by omega)]
     walk_at "pd"
     rw[show (0+(i:Int)).toNat=i by omega]
     rcases (show l.getD i 0-(kN l.sum:Nat)+(0+(i:Int))=0\/l.getD i 0-(kN l.sum:Nat)+(0+(i:Int))=1 by omega) with z|z<;>rw[z]<;>walk_at "pd" <;> exact JR ⟨_,_,rfl⟩
    ·rw[ZM (by omega)] at had
     walk_at "pd"
     rw[decide_eq_false (show ¬0+(i:Int)<l.length by omega)]
     walk_at "pd"
     rcases (show 0-((kN l.sum:Nat):Int)+(0+(i:Int))=0\/0-((kN l.sum:Nat):Int)+(0+(i:Int))=1 by omega) with z|z<;>rw[z]<;>walk_at "pd" <;> exact JR ⟨_,_,rfl⟩) (by rw[Jb];omega) (v:=.bl false) (by
    rintro x ρ hx ⟨v2,v3,rfl⟩
    obtain⟨hi,rfl⟩:=Jo hx
    unfold adI at hbad
    by_cases e:n<l.length
    ·walk_at "pd"
     rw[decide_eq_true (show 0+(n:Int)<l.length by omega)]
     walk_at "pd"
     rw[show (0+(n:Int)).toNat=n by omega]
     rw[decide_eq_false (show ¬l.getD n 0-(kN l.sum:Nat)+(0+(n:Int))=0 by omega),decide_eq_false (show ¬l.getD n 0-(kN l.sum:Nat)+(0+(n:Int))=1 by omega)]
     walk_at "pd"
    ·rw[ZM (by omega)] at hbad
     walk_at "pd"
     rw[decide_eq_false (show ¬0+(n:Int)<l.length by omega)]
     walk_at "pd"
     rw[decide_eq_false (show ¬0-((kN l.sum:Nat):Int)+(0+(n:Int))=0 by omega),decide_eq_false (show ¬0-((kN l.sum:Nat):Int)+(0+(n:Int))=1 by omega)]
     walk_at "pd")
   rw[this]
   walk_at "pd"
theorem ZiE {l:List Int} (h:Zj l):Zix.fn [.lst (l.map PV.int)]=.ok (.bl (ZgH l)):=Pm.fn_eq Zix l h fun(a:List Int) e=>by (simp only[Zix,List.cons.injEq,PV.lst.injEq,PV.int.injEq,PV.str.injEq,PV.bl.injEq,PV.tup.injEq,ZX,and_true] at e ⊢;first|(simp only[e];done)|(subst e;rfl)|(rw[e]))
noncomputable def ZiC:Pm:=⟨List Int,fun ns=>[.lst (ns.map PV.int)],fun ns=>Zj ns,fun ns=>.ok (.lst ((Zz ns).map PV.int))⟩
theorem Zk1 (T:Txt K mg) {f:Addr}{fd:FuncData} (F:Fun K "_law_march" "_law_march" ZiH f fd):Va P w K mg base CX0 1 f fd ["line"] (spF K 1 .F W0 ZiC.fn):=by
 refine F.okP ZjO rfl rfl (fun cdv A outer s H E hr=>?_)
 have hu:=hr.units
 refine⟨_,_,⟨[],[],[],.F⟩,rfl,(Zf (Jk (Zq (Je (K:=K) hu) (pv 0) (J7 Zh) (Zu _)) (Zk (Z5 (J7 Zh))) Z9)
   (Zf (ZG (i:=1) ZjO.nd rfl (by first|exact Or.inl rfl|exact Or.inr rfl) (JP (JA (K:=K)) rfl T.z_list Vj (Zb (Zax (Zap (K:=K)) (pv 0) (ZbK Zc) ZbL) Zh)))
   (Zf (Ui PassesOwn.never rfl (Jg rfl T.z_range (Zb (ZJ (Zm (K:=K)) (pv 0) Zc (fun _ _=>rfl)) Zh)) (JE (i:=2) ZjO.nd rfl (by first|exact Or.inl rfl|exact Or.inr rfl)) (Zf (Jk (Zq (Je (K:=K) hu) (pv 2) (Zt (ZI (K:=K)) rfl T.z_len Jv (Zb (pv 1) Zh)) (Zu _)) (Zk (V4 (Ze9 PySem.F.plainAttrs_list PySem.F.slot_list_append PySem.F.type_list_append Ul (pv 1) (Zb Zc Zh)))) Z9)
   (Zk (U5 (Zr ZP (ZJ (Zm (K:=K)) (pv 1) (pv 2) (fun _ _=>rfl)) Zc) (U6 (pv 1) (pv 2) Jz)))))
   (Zk (Z5 (pv 1)))))),
   (Zl (Γm:=[.S,.U,.U]) (Jm (Zp (DE.toA (ZQ (g:=id) (Za (i:=0) (m:=.S) rfl (by decide)) (DE.toA (JH J4)))))
   (Jc (JH J4))
   ZC)
   (Zl (Γm:=[.S,.O,.U]) (ZU (i:=1) (Vy (Ze (DE.toA (Zeg (Za (i:=0) (m:=.S) rfl (by decide)) (Zc6 (DE.toA Zd)) Zc7)) Zg)) (by decide))
   (Zl (Γm:=[.S,.O,.U]) (Uu (Γl:=[.S,.O,.U]) (JG (Ze (Zv (te:=tC .non) (Za (i:=0) (m:=.S) rfl (by decide)) (DE.toA Zd)) Zg)) rfl (Zfb (i:=2) (by decide))
   (DS.out (Y:=⟨[.S,.O,.P],[.S,.O,.U],[.S,.O,.U],.F⟩) (Y':=⟨[.S,.O,.U],[.S,.O,.U],[.S,.O,.U],.F⟩) (Zl (Γm:=[.S,.O,.P]) (Jm (Zp (DE.toA (ZQ (g:=id) (DE.toA (Zn (i:=2) rfl)) (DE.toA (Jt (Ze (Za (i:=1) (m:=.O) rfl (by decide)) Zg))))))
   (Zc5 (i:=1) rfl rfl (DE.PF Zd))
   ZC)
   (J9 (i:=1) rfl (ZR (Zv (te:=tC .non) (Za (i:=1) (m:=.O) rfl (by decide)) (DE.toA (Zn (i:=2) rfl))) (DE.toA Zd)) (DE.toA (Zn (i:=2) rfl)))) rfl rfl rfl rfl))
   (Jc (Vg (i:=1) rfl))))), ?_⟩
 refine Pm.ref ZiC (g:=fun xs=>_) ?_
 intro (ns:List Int) (hk:Zj ns)
 simp only[ZiC]
 have hl:=hk.2.1
 by_cases hz:ns=[]
 ·subst hz
  walk_at "pd"
  rfl
 ·obtain⟨h1,h2⟩:=hk.head hz
  have hp:0<ns.length:=ZmA.mpr hz
  walk_at "pd"
  rw[decide_eq_false hz]
  walk_at "pd"
  rw[Vq hz]
  generalize hw:U2 _ _ _=W
  obtain⟨ρ',rfl,v,rfl⟩:=Jl hw (fun i ρ=>∃v,ρ=[.lst (ns.map PV.int),.lst ((mrN (ns.drop 1) i).map PV.int),v]) ⟨_,by rw[Zdt]⟩ (by
   rintro i x ρ hx ⟨v,rfl⟩
   obtain⟨hi,rfl⟩:=Jo hx
   have hlen:(mrN (ns.drop 1) i).length=max (ns.length-1) i:=by rw[V7,ZmE]
   walk_at "pd"
   by_cases c:i<ns.length-1
   ·rw[decide_eq_false (by omega)]
    walk_at "pd"
    exact JR ⟨.int (0+(i:Int)),by rw[<- Zba (by rw[ZmE];omega)];simp only[Znn,Zm8]⟩
   ·rw[decide_eq_true (by omega)]
    walk_at "pd"
    have e0:(mrN (ns.drop 1) i++[0]).getD i 0=0:=by
     rw[ZlS,ZlZ (by omega),show i-(mrN (ns.drop 1) i).length=0 by omega];rfl
    exact JR ⟨.int (0+(i:Int)),by
     rw[<- QR (by rw[ZmE];omega)]
     simp only[Znn,Zm8,e0]⟩)
  walk_at "pd"
  rw[Jb]
theorem ZiV {ns:List Int} (h:Zj ns):ZiC.fn [.lst (ns.map PV.int)]=.ok (.lst ((Zz ns).map PV.int)):=Pm.fn_eq ZiC ns h fun(a:List Int) e=>by (simp only[ZiC,List.cons.injEq,PV.lst.injEq,PV.int.injEq,PV.str.injEq,PV.bl.injEq,PV.tup.injEq,ZX,and_true] at e ⊢;first|(simp only[e];done)|(subst e;rfl)|(rw[e]))
open Classical in
noncomputable def ZdV (l:List Int):Bool:=decide (Row l)
theorem ZbB {l:List Int} (h:Row l):ZdV l=true:=by classical exact decide_eq_true h
theorem ZdU {l:List Int} (h:¬Row l):ZdV l=false:=by classical exact decide_eq_false h
noncomputable def Ziy:Pm:=⟨List Int,fun a=>[.lst (a.map PV.int)],fun a=>a.length<=100000,fun a=>orX (Qu a) (.bl (ZdV a))⟩
theorem Zli (T:Txt K mg) {f:Addr}{fd:FuncData} (F:Fun K "is_marching" "is_marching" Zi9 f fd):Va P w K mg base (CX1 P w) 5 f fd ["line"] (spF K 1 .P (W1 K) Ziy.fn):=by
 have Zkl:=Zdq (P:=P) (w:=w) (base:=base) T.ZkH Zk3 (fun F=>Zk0 T F)
 have Zju:=Qc (P:=P) (w:=w) (base:=base) T.Zk2 Zkp (fun F=>Zko T F)
 refine F.okX Zlh rfl rfl (fun cdv A outer s H E hr=>?_)
 have hu:=hr.units
 refine⟨_,_,⟨[],[],[],.P⟩,rfl,(Zf (V4 (JV Zkl (hr.mono (by decide)) rfl ZbQ (Zb (pv 0) Zh)))
   (Zk (Z5 (J1 ZeN (Z4 Zju (hr.mono (by decide)) rfl (Zb (pv 0) Zh)) Zay (Zu _))))),
   (Zl (Γm:=[.S]) (Zc4 (DE.toA (ZhP (Zo Z0) (Ze (Za (i:=0) (m:=.S) rfl (by decide)) Zg))))
   (ZK (Zfe (DE.toA (ZgL (Zo Z0) (Pm.calm_fn J2) (Ze (Za (i:=0) (m:=.S) rfl (by decide)) Zg)))))), ?_⟩
 refine Pm.ref Ziy (g:=fun xs=>_) ?_
 rintro(l:List Int) (hl:l.length<=100000)
 simp only[Ziy]
 walk_at "pd"
 rw[Zjh (by omega)]
 by_cases h:Zj l
 ·rw[JW h]
  simp only[orX]
  walk_at "pd"
  rw[ZiD h]
  unfold Zfp
  by_cases hr:Row l
  ·rw[if_pos hr,ZbB hr]
   walk_at "pd"
  ·rw[if_neg hr,ZdU hr]
   walk_at "pd"
 ·rw[JF h]
  simp only[orX]
  walk_at "pd"
theorem Zji {l:List Int} (h:l.length<=100000):Ziy.fn [.lst (l.map PV.int)]=orX (Qu l) (.bl (ZdV l)):=Pm.fn_eq Ziy l h fun(a:List Int) e=>by (simp only[Ziy,List.cons.injEq,PV.lst.injEq,PV.int.injEq,PV.str.injEq,PV.bl.injEq,PV.tup.injEq,ZX,and_true] at e ⊢;first|(simp only[e];done)|(subst e;rfl)|(rw[e]))
theorem JK {l:List Int} (h:Zj l):Ziy.fn [.lst (l.map PV.int)]=.ok (.bl (ZdV l)):=by
 rw[Zji (by have:=h.2.1;omega),JW h];rfl
noncomputable def Zir:Pm:=⟨Int,fun i=>[.int i],fun _=>True,fun _=>.ok (.bl true)⟩
theorem Zjs (T:Txt K mg) {f:Addr}{fd:FuncData} (F:Fun K "_law_whole_number" "_law_whole_number" Ziq f fd):Va P w K mg base CX0 1 f fd ["found"] (spF K 1 .P W0 Zir.fn):=by
 refine F.okP Zkn rfl rfl (fun cdv A outer s H E hr=>?_)
 have hu:=hr.units
 refine⟨_,_,⟨[],[],[],.P⟩,rfl,(Zk (Z5 (U7 (Zt (Jn (K:=K) (n := "int") rfl) rfl T.z_isinstance ZN (Zb (pv 0) (Zb (JQ (v:=.ty "int") rfl T.z_int Zel rfl) Zh))) (Uj (ZdY (Zt (Jn (K:=K) (n := "bool") rfl) rfl T.z_isinstance ZN (Zb (pv 0) (Zb (JQ (v:=.ty "bool") rfl T.z_bool Zac rfl) Zh)))))))),
   (ZK (UF (DE.toA (VI (Za (i:=0) (m:=.S) rfl (by decide)))) (Zeh (DE.toA (VI (Za (i:=0) (m:=.S) rfl (by decide))))))), ?_⟩
 refine Pm.ref Zir (g:=fun xs=>_) ?_
 intro (i:Int) _
 simp only[Zir]
 walk_at "pd"
theorem Zis {i:Int}:Zir.fn [.int i]=.ok (.bl true):=Pm.fn_eq Zir i trivial fun _ _=>rfl
noncomputable def Zi7:Pm:=⟨List Int,fun ns=>[.lst (ns.map PV.int)],fun ns=>Zj ns,fun _=>.ok (.bl true)⟩
theorem ZkW (T:Txt K mg) {f:Addr}{fd:FuncData} (F:Fun K "_law_is_line" "_law_is_line" Zi5 f fd):Va P w K mg base CX0 2 f fd ["found"] (spF K 1 .P W0 Zi7.fn):=by
 have ZiJ:=Qc (P:=P) (w:=w) (base:=base) T.Zj5 Zjt (fun F=>Zjs T F)
 refine F.okP ZjZ rfl rfl (fun cdv A outer s H E hr=>?_)
 have hu:=hr.units
 refine⟨_,_,⟨[],[],[],.P⟩,rfl,(Zf (Jk (PW.pt (V3 (J6 (JJ (Zt (Jn (K:=K) (n := "list") rfl) rfl T.z_isinstance ZN (Zb (pv 0) (Zb (JQ (v:=.ty "list") rfl T.z_list Vj rfl) Zh))))) (Vl (Zq VM (Zt (ZI (K:=K)) rfl T.z_len Jv (Zb (pv 0) Zh)) Zc (Zu _))))) (Zk (Z5 V5)) Z9)
   (Zf (Ui PassesOwn.never rfl (UN (K:=K) (pv 0)) (JE (i:=1) ZjZ.nd rfl (by first|exact Or.inl rfl|exact Or.inr rfl)) (Zk (Jk (PW.pt (V3 (J6 (JJ (Z4 ZiJ (hr.mono (by decide)) rfl (Zb (pv 1) Zh)))) (Vl (Zq ZeO (pv 1) Zc (Zu _))))) (Zk (Z5 V5)) Z9)))
   (Zk (Z5 (Zhc (J1 (Je (K:=K) hu) (pv 0) (J7 Zh) (Zu _)) (Uj (U7 (J1 VM (ZJ (Zm (K:=K)) (pv 0) Zc (fun _ _=>rfl)) Zc (Zu _)) (Uj (J1 VM (ZJ (Zm (K:=K)) (pv 0) (ZbO Qg Zc) (fun _ _=>rfl)) Zc (Zu _)))))))))),
   (Zl (Γm:=[.S,.U]) (Jm (VC (J8 (Zbo (DE.toA (VI (Za (i:=0) (m:=.S) rfl (by decide)))))) (Zp (DE.toA (VO (DE.toA (Jt (Ze (Za (i:=0) (m:=.S) rfl (by decide)) Zg))) (DE.toA Zd)))))
   (ZK VD)
   ZC)
   (Zl (Γm:=[.S,.U]) (Uu (Γl:=[.S,.U]) (Zc8 (Zc9 (i:=0) rfl)) rfl (Zfb (i:=1) (by decide))
   (DS.out (Y:=⟨[.S,.P],[.S,.U],[.S,.U],.P⟩) (Y':=⟨[.S,.U],[.S,.U],[.S,.U],.P⟩) (Jm (VC (J8 (Zbo (DE.toA (ZcO (Zo Z0) (Ze (DE.toA (Zn (i:=1) rfl)) Zg))))) (Zp (DE.toA (Zff (DE.toA (Zn (i:=1) rfl)) (DE.toA Zd)))))
   (ZK VD)
   ZC) rfl rfl rfl rfl))
   (ZK (Zho (DE.toA (ZQ (g:=id) (Za (i:=0) (m:=.S) rfl (by decide)) (DE.toA (JH J4)))) (UF (DE.toA (VO (Zv (te:=tC .non) (Za (i:=0) (m:=.S) rfl (by decide)) (DE.toA Zd)) (DE.toA Zd))) (VO (Zv (te:=tC .non) (Za (i:=0) (m:=.S) rfl (by decide)) (DE.toA (Q7 (DE.toA Zd)))) (DE.toA Zd))))))), ?_⟩
 refine Pm.ref Zi7 (g:=fun xs=>_) ?_
 intro (ns:List Int) (hk:Zj ns)
 simp only[Zi7]
 have hl:=hk.2.1
 walk_at "pd"
 rw[decide_eq_false (by omega)]
 walk_at "pd"
 generalize hw:U2 _ _ _=W
 obtain⟨ρ',rfl,v,rfl⟩:=Jl hw (fun i ρ=>∃v,ρ=[.lst (ns.map PV.int),v]) ⟨_,rfl⟩ (by
  rintro i x ρ hx ⟨v,rfl⟩
  have hx:=ZmR hx
  obtain⟨z,hz,rfl⟩:=Zm5.mp hx
  have:=hk.1 z hz
  walk_at "pd"
  rw[Zis]
  walk_at "pd"
  rw[decide_eq_false (by omega)]
  walk_at "pd"
  exact JR ⟨_,rfl⟩)
 walk_at "pd"
 by_cases h4:ns=[]
 ·subst h4
  walk_at "pd"
 ·have hl:0<ns.length:=ZmA.mpr h4
  have h5:=hk.2.2.2.resolve_left h4
  have g0:=Zw hk.1 0
  have g1:=Zw hk.1 (ns.length-1)
  rw[decide_eq_false h4]
  walk_at "pd"
  rw[VR h4]
  walk_at "pd"
  rw[decide_eq_true (by omega),decide_eq_true (by omega)]
  walk_at "pd"
theorem ZiY {ns:List Int} (h:Zj ns):Zi7.fn [.lst (ns.map PV.int)]=.ok (.bl true):=Pm.fn_eq Zi7 ns h fun _ _=>rfl
theorem ZaQ {r:List Int} (h:Zj r) (hr:Row r) (j:Nat):mIt j r=r ↔ ZcX (Qd r) j=Qd r:=by
 have hk:Zag r (kN r.sum):=hr
 obtain⟨k1,k2⟩:=Zb9 h hk j
 have hl:=Qb r
 have hm:∀i,(i+j)%(kN r.sum+1)<=kN r.sum:=fun i=>by have:=ZmZ (i+j) (show 0<kN r.sum+1 by omega);omega
 constructor
 ·intro e
  refine ZhL (by rw[UL]) fun i hi=>?_
  rw[UL,hl] at hi
  rw[UM (by omega),hl,VY (hm i),VY (by omega),<- k2 i (by omega),e]
 ·intro e
  refine Zez (ZH h j) h k1 hk fun i hi=>?_
  rw[k2 i hi,<- VY (hm i),<- VY hi,<- hl,<- UM (a:=Qd r) (by omega),e]
theorem Za3 {r:List Int} (h:Zj r) (hr:Row r):1<=VS (Qd r)/\VS (Qd r)<=20/\mIt (VS (Qd r)) r=r/\∀j:Nat,1<=j->j<VS (Qd r)->mIt j r≠r:=by
 have hl:=Qb r
 obtain⟨o1,o2,o3,o4⟩:=Ze1 (a:=Qd r) (by omega)
 have hs:=(VA (L2.sum_nn h.1)).1
 have h1:=h.2.2.1
 have hk:kN r.sum<=13:=by
  apply Classical.byContradiction
  intro z
  have h2:=JT (show 14<=kN r.sum by omega)
  have h3:tri 14=105:=by decide
  omega
 exact⟨o1,by omega,(ZaQ h hr _).mpr o3,fun j j1 j2 e=>o4 j j1 j2 ((ZaQ h hr j).mp e)⟩
noncomputable def ZiP:Pm:=⟨List Int,fun r=>[.lst (r.map PV.int),.int (VS (Qd r):Nat)],fun r=>Zj r/\Row r,fun _=>.ok (.bl true)⟩
theorem Zlt (T:Txt K mg) {f:Addr}{fd:FuncData} (F:Fun K "_law_back" "_law_back" ZiN f fd):Va P w K mg base CX0 2 f fd ["row", "steps"] (spF K 2 .P W0 ZiP.fn):=by
 have ZjC:=Qc (P:=P) (w:=w) (base:=base) T.ZkI Zk4 (fun F=>Zk1 T F)
 refine F.okP ZjB rfl rfl (fun cdv A outer s H E hr=>?_)
 have hu:=hr.units
 refine⟨_,_,⟨[],[],[],.P⟩,rfl,(Zf (ZG (i:=2) ZjB.nd rfl (by first|exact Or.inl rfl|exact Or.inr rfl) (Z4 ZjC (hr.mono (by decide)) rfl (Zb (pv 0) Zh)))
   (Zf (Ui PassesOwn.never rfl (ZbM rfl T.z_range (Zb Zc (Zb (pv 1) Zh))) (JE (i:=3) ZjB.nd rfl (by first|exact Or.inl rfl|exact Or.inr rfl)) (Zf (Jk (Zq (Je (K:=K) hu) (pv 2) (pv 0) (Zu _)) (Zk (Z5 V5)) Z9)
   (Zk (ZG (i:=2) ZjB.nd rfl (by first|exact Or.inl rfl|exact Or.inr rfl) (Z4 ZjC (hr.mono (by decide)) rfl (Zb (pv 2) Zh))))))
   (Zk (Z5 (J1 (Je (K:=K) hu) (pv 2) (pv 0) (Zu _)))))),
   (Zl (Γm:=[.S,.S,.O,.U]) (ZU (i:=2) (Zfw (Zo Z0) (Ze (Za (i:=0) (m:=.S) rfl (by decide)) Zg)) (by decide))
   (Zl (Γm:=[.S,.S,.O,.U]) (Uu (Γl:=[.S,.S,.O,.U]) (Zfa (Ze (DE.toA Zd) (Ze (Za (i:=1) (m:=.S) rfl (by decide)) Zg))) rfl (Zfb (i:=3) (by decide))
   (DS.out (Y:=⟨[.S,.S,.O,.P],[.S,.S,.O,.U],[.S,.S,.O,.U],.P⟩) (Y':=⟨[.S,.S,.O,.U],[.S,.S,.O,.U],[.S,.S,.O,.U],.P⟩) (Zl (Γm:=[.S,.S,.O,.P]) (Jm (Zp (DE.toA (ZQ (g:=id) (Za (i:=2) (m:=.O) rfl (by decide)) (Za (i:=0) (m:=.S) rfl (by decide)))))
   (ZK VD)
   ZC)
   (ZU (i:=2) (Zfw (Zo Z0) (Ze (Za (i:=2) (m:=.O) rfl (by decide)) Zg)) (by decide))) rfl rfl rfl rfl))
   (ZK (ZQ (g:=id) (Za (i:=2) (m:=.O) rfl (by decide)) (Za (i:=0) (m:=.S) rfl (by decide)))))), ?_⟩
 refine Pm.ref ZiP (g:=fun xs=>_) ?_
 rintro(r:List Int) ⟨h,hr⟩
 simp only[ZiP]
 obtain⟨o1,o2,o3,o4⟩:=Za3 h hr
 generalize VS (Qd r)=n at o1 o2 o3 o4
 walk_at "pd"
 rw[ZiV h]
 walk_at "pd"
 generalize hw:U2 _ _ _=W
 obtain⟨ρ',rfl,v,rfl⟩:=Jl hw (fun i ρ=>∃v,ρ=[.lst (r.map PV.int),.int (n:Nat),.lst ((mIt (i+1) r).map PV.int),v]) ⟨_,rfl⟩ (by
  rintro i x ρ hx ⟨v,rfl⟩
  obtain⟨hi,rfl⟩:=Jo hx
  walk_at "pd"
  rw[decide_eq_false (o4 (i+1) (by omega) (by omega))]
  walk_at "pd"
  rw[ZiV (ZH h (i+1))]
  walk_at "pd"
  exact JR ⟨_,rfl⟩)
 rw[Jb]
 walk_at "pd"
 rw[show ((n:Int)-1).toNat+1=n by omega,o3,decide_eq_true rfl]
theorem Zj7 {r:List Int} (h:Zj r/\Row r):ZiP.fn [.lst (r.map PV.int),.int (VS (Qd r):Nat)]=.ok (.bl true):=Pm.fn_eq ZiP r h fun _ _=>rfl
theorem Zdm {g:Bool->Bool}{n:Nat}{x:PV} (h:Dat n x) (hn:n<=64:=by decide):QJ g x x=.ok (.bl (g true)):=by
 unfold QJ
 rw[h.ok hn,Bool.and_self,if_pos rfl,PySem.SeqAt.eqv_refl _ h.can]
theorem Zer {l:List Int} (h:Zj l):Ua l<=20000:=by
 obtain⟨_,h2⟩:=JU h
 obtain⟨t,t1,t2⟩:=Zie h
 apply Classical.byContradiction
 intro z
 exact h2 t (by omega) t2
theorem Zbx {l:List Int} (h:Zj l):Row l ↔ Ua l=0:=by
 obtain⟨h1,h2⟩:=JU h
 constructor
 ·intro z
  apply Classical.byContradiction
  intro c
  exact h2 0 (by omega) z
 ·intro z
  rw[z] at h1
  exact h1
noncomputable def Zkz:Pm:=⟨List Int,fun ns=>[.lst (ns.map PV.int)],fun ns=>ns.length<=63,fun _=>.ok (.bl true)⟩
theorem ZlP (T:Txt K mg) {f:Addr}{fd:FuncData} (F:Fun K "law" "law" Zlr f fd):Va P w K mg base CX0 6 f fd ["script"] (spF K 1 .P W0 Zkz.fn):=by
 have Zl7:=Qc (P:=P) (w:=w) (base:=base) T.Zl2 Zlu (fun F=>Zls T F)
 have Zlo:=Zdq (P:=P) (w:=w) (base:=base) T.ZlB Zl5 (fun F=>Zl0 T F)
 have Zlm:=Qc (P:=P) (w:=w) (base:=base) T.Zlj Zlc (fun F=>ZkV T F)
 have Zkm:=Qc (P:=P) (w:=w) (base:=base) T.Zla ZkQ (fun F=>ZkM T F)
 have ZjC:=Qc (P:=P) (w:=w) (base:=base) T.ZkI Zk4 (fun F=>Zk1 T F)
 have Zk5:=Zdq (P:=P) (w:=w) (base:=base) T.Zlq Zll (fun F=>Zli T F)
 have ZiJ:=Qc (P:=P) (w:=w) (base:=base) T.Zj5 Zjt (fun F=>Zjs T F)
 have Zln:=Qc (P:=P) (w:=w) (base:=base) T.Zlk Zld (fun F=>ZkW T F)
 have Zl8:=Qc (P:=P) (w:=w) (base:=base) T.Zl3 Zlv (fun F=>Zlt T F)
 refine F.okP Zky rfl rfl (fun cdv A outer s H E hr=>?_)
 have hu:=hr.units
 refine⟨_,_,⟨[],[],[],.P⟩,rfl,(Zf (ZG (i:=1) Zky.nd rfl (by first|exact Or.inl rfl|exact Or.inr rfl) (Z4 Zl7 (hr.mono (by decide)) rfl (Zb (Z4 Zlm (hr.mono (by decide)) rfl (Zb (pv 0) (Zb Zc Zh))) Zh)))
   (Zf (ZG (i:=2) Zky.nd rfl (by first|exact Or.inl rfl|exact Or.inr rfl) (JP (JA (K:=K)) rfl T.z_list Vj (Zb (pv 1) Zh)))
   (Zf (ZG (i:=3) Zky.nd rfl (by first|exact Or.inl rfl|exact Or.inr rfl) (JV Zlo (hr.mono (by decide)) rfl UP (Zb (pv 2) Zh)))
   (Zf (Jk (PW.pt (V3 (Zq (Uk (K:=K) hu) (pv 2) (pv 1) (Zu _)) (V3 (J6 (JJ (Zt (Jn (K:=K) (n := "tuple") rfl) rfl T.z_isinstance ZN (Zb (pv 3) (Zb (JQ (v:=.ty "tuple") rfl T.z_tuple ZdK rfl) Zh))))) (Vl (Zq (Uk (K:=K) hu) (Zt (ZI (K:=K)) rfl T.z_len Jv (Zb (pv 3) Zh)) Zc (Zu _)))))) (Zk (Z5 V5)) Z9)
   (Zf (Jk (PW.pt (V3 (J6 (JJ (Z4 ZiJ (hr.mono (by decide)) rfl (Zb (ZJ (Zm (K:=K)) (pv 3) Zc (fun _ _=>rfl)) Zh)))) (V3 (J6 (JJ (Z4 ZiJ (hr.mono (by decide)) rfl (Zb (ZJ (Zm (K:=K)) (pv 3) Zc (fun _ _=>rfl)) Zh)))) (Vl (J6 (Zas ZaY ZaY Zc (ZJ (Zm (K:=K)) (pv 3) Zc (fun _ _=>rfl)) Zc (by rfl))))))) (Zk (Z5 V5)) Z9)
   (Zf (ZG (i:=4) Zky.nd rfl (by first|exact Or.inl rfl|exact Or.inr rfl) (JP (JA (K:=K)) rfl T.z_list Vj (Zb (pv 1) Zh)))
   (Zf (Ui PassesOwn.never rfl (Jg rfl T.z_range (Zb (ZJ (Zm (K:=K)) (pv 3) Zc (fun _ _=>rfl)) Zh)) (JE (i:=5) Zky.nd rfl (by first|exact Or.inl rfl|exact Or.inr rfl)) (Zf (Jk (JJ (Z4 Zkm (hr.mono (by decide)) rfl (Zb (pv 4) Zh))) (Zk (Z5 V5)) Z9)
   (Zk (ZG (i:=4) Zky.nd rfl (by first|exact Or.inl rfl|exact Or.inr rfl) (Z4 ZjC (hr.mono (by decide)) rfl (Zb (pv 4) Zh))))))
   (Zf (Jk (PW.pt (V3 (J6 (JJ (Z4 Zln (hr.mono (by decide)) rfl (Zb (ZJ (Zm (K:=K)) (pv 3) Zc (fun _ _=>rfl)) Zh)))) (V3 (Zq (Uk (K:=K) hu) (ZJ (Zm (K:=K)) (pv 3) Zc (fun _ _=>rfl)) (pv 4) (Zu _)) (Vl (J6 (JJ (Z4 Zkm (hr.mono (by decide)) rfl (Zb (pv 4) Zh)))))))) (Zk (Z5 V5)) Z9)
   (Zf (Jk (PW.pt (V3 (J6 (Zas ZaY ZaY Zc (ZJ (Zm (K:=K)) (pv 3) Zc (fun _ _=>rfl)) Zc (by rfl))) (Vl (J6 (JJ (Z4 Zl8 (hr.mono (by decide)) rfl (Zb (pv 4) (Zb (ZJ (Zm (K:=K)) (pv 3) Zc (fun _ _=>rfl)) Zh)))))))) (Zk (Z5 V5)) Z9)
   (Zf (ZG (i:=6) Zky.nd rfl (by first|exact Or.inl rfl|exact Or.inr rfl) (J7 (Zb (JV Zk5 (hr.mono (by decide)) rfl UP (Zb (pv 2) Zh)) (Zb (JV Zk5 (hr.mono (by decide)) rfl UP (Zb (JP (JA (K:=K)) rfl T.z_list Vj (Zb (pv 4) Zh)) Zh)) Zh))))
   (Zf (Jk (PW.pt (V3 (J6 (JJ (Zt (Jn (K:=K) (n := "bool") rfl) rfl T.z_isinstance ZN (Zb (ZJ (Zm (K:=K)) (pv 6) Zc (fun _ _=>rfl)) (Zb (JQ (v:=.ty "bool") rfl T.z_bool Zac rfl) Zh))))) (Vl (Zq (Uk (K:=K) hu) (pv 6) (J7 (Zb (J1 (Je (K:=K) hu) (ZJ (Zm (K:=K)) (pv 3) Zc (fun _ _=>rfl)) Zc (Zu _)) (Zb V5 Zh))) (Zu _))))) (Zk (Z5 V5)) Z9)
   (Zf (ZG (i:=7) Zky.nd rfl (by first|exact Or.inl rfl|exact Or.inr rfl) (ZbP (Zb (ZJ (Zm (K:=K)) (pv 3) Zc (fun _ _=>rfl)) (Zb (pv 4) (Zb (ZJ (Zm (K:=K)) (pv 3) Zc (fun _ _=>rfl)) Zh)))))
   (Zf (V4 (Ze9 PySem.F.plainAttrs_list PySem.F.slot_list_append PySem.F.type_list_append Ul (ZJ (Zm (K:=K)) (pv 3) Zc (fun _ _=>rfl)) (Zb Zc Zh)))
   (Zk (Z5 (U7 (J1 (Je (K:=K) hu) (JV Zlo (hr.mono (by decide)) rfl UP (Zb (pv 2) Zh)) (pv 7) (Zu _)) (Uj (J1 (Je (K:=K) hu) (pv 2) (pv 1) (Zu _))))))))))))))))))),
   (Zl (Γm:=[.S,.O,.U,.U,.U,.U,.U,.U]) (ZU (i:=1) (Zfw (Zo Z0) (Ze (DE.toA (Zfw (Zo (Zo Z0)) (Ze (Za (i:=0) (m:=.S) rfl (by decide)) (Ze (DE.toA Zd) Zg)))) Zg)) (by decide))
   (Zl (Γm:=[.S,.O,.O,.U,.U,.U,.U,.U]) (ZU (i:=2) (Vy (Ze (Za (i:=1) (m:=.O) rfl (by decide)) Zg)) (by decide))
   (Zl (Γm:=[.S,.O,.O,.O,.U,.U,.U,.U]) (ZU (i:=3) (ZhN (Zo Z0) (Ze (Za (i:=2) (m:=.O) rfl (by decide)) Zg)) (by decide))
   (Zl (Γm:=[.S,.O,.O,.O,.U,.U,.U,.U]) (Jm (VC (Zp (DE.toA (ZQ (g:=(!·)) (Za (i:=2) (m:=.O) rfl (by decide)) (Za (i:=1) (m:=.O) rfl (by decide))))) (VC (J8 (Zbo (DE.toA (VI (Za (i:=3) (m:=.O) rfl (by decide)))))) (Zp (DE.toA (ZQ (g:=(!·)) (DE.toA (Jt (Ze (Za (i:=3) (m:=.O) rfl (by decide)) Zg))) (DE.toA Zd))))))
   (ZK VD)
   ZC)
   (Zl (Γm:=[.S,.O,.O,.O,.U,.U,.U,.U]) (Jm (VC (J8 (Zbo (DE.toA (ZcO (Zo Z0) (Ze (Zv (te:=tC .non) (Za (i:=3) (m:=.O) rfl (by decide)) (DE.toA Zd)) Zg))))) (VC (J8 (Zbo (DE.toA (ZcO (Zo Z0) (Ze (Zv (te:=tC .non) (Za (i:=3) (m:=.O) rfl (by decide)) (DE.toA Zd)) Zg))))) (J8 (Zp (DE.toA (ZaJ (p:=fun i j=>decide (i<=j)) (q:=fun i j=>decide (i<=j)) (DE.toA Zd) (Zv (te:=tC .non) (Za (i:=3) (m:=.O) rfl (by decide)) (DE.toA Zd)) (DE.toA Zd)))))))
   (ZK VD)
   ZC)
   (Zl (Γm:=[.S,.O,.O,.O,.O,.U,.U,.U]) (ZU (i:=4) (Vy (Ze (Za (i:=1) (m:=.O) rfl (by decide)) Zg)) (by decide))
   (Zl (Γm:=[.S,.O,.O,.O,.O,.U,.U,.U]) (Uu (Γl:=[.S,.O,.O,.O,.O,.U,.U,.U]) (JG (Ze (Zv (te:=tC .non) (Za (i:=3) (m:=.O) rfl (by decide)) (DE.toA Zd)) Zg)) rfl (Zfb (i:=5) (by decide))
   (DS.out (Y:=⟨[.S,.O,.O,.O,.O,.P,.U,.U],[.S,.O,.O,.O,.O,.U,.U,.U],[.S,.O,.O,.O,.O,.U,.U,.U],.P⟩) (Y':=⟨[.S,.O,.O,.O,.O,.U,.U,.U],[.S,.O,.O,.O,.O,.U,.U,.U],[.S,.O,.O,.O,.O,.U,.U,.U],.P⟩) (Zl (Γm:=[.S,.O,.O,.O,.O,.P,.U,.U]) (Jm (Zbo (DE.toA (ZcO (Zo Z0) (Ze (Za (i:=4) (m:=.O) rfl (by decide)) Zg))))
   (ZK VD)
   ZC)
   (ZU (i:=4) (Zfw (Zo Z0) (Ze (Za (i:=4) (m:=.O) rfl (by decide)) Zg)) (by decide))) rfl rfl rfl rfl))
   (Zl (Γm:=[.S,.O,.O,.O,.O,.U,.U,.U]) (Jm (VC (J8 (Zbo (DE.toA (ZcO (Zo Z0) (Ze (Zv (te:=tC .non) (Za (i:=3) (m:=.O) rfl (by decide)) (DE.toA Zd)) Zg))))) (VC (Zp (DE.toA (ZQ (g:=(!·)) (Zv (te:=tC .non) (Za (i:=3) (m:=.O) rfl (by decide)) (DE.toA Zd)) (Za (i:=4) (m:=.O) rfl (by decide))))) (J8 (Zbo (DE.toA (ZcO (Zo Z0) (Ze (Za (i:=4) (m:=.O) rfl (by decide)) Zg)))))))
   (ZK VD)
   ZC)
   (Zl (Γm:=[.S,.O,.O,.O,.O,.U,.U,.U]) (Jm (VC (J8 (Zp (DE.toA (ZaJ (p:=fun i j=>decide (i<=j)) (q:=fun i j=>decide (i<=j)) (DE.toA Zd) (Zv (te:=tC .non) (Za (i:=3) (m:=.O) rfl (by decide)) (DE.toA Zd)) (DE.toA Zd))))) (J8 (Zbo (DE.toA (ZcO (Zo (Zo Z0)) (Ze (Za (i:=4) (m:=.O) rfl (by decide)) (Ze (Zv (te:=tC .non) (Za (i:=3) (m:=.O) rfl (by decide)) (DE.toA Zd)) Zg)))))))
   (ZK VD)
   ZC)
   (Zl (Γm:=[.S,.O,.O,.O,.O,.U,.O,.U]) (ZU (i:=6) (JH (Jp (DE.PF (ZhM (Zo Z0) (Ze (Za (i:=2) (m:=.O) rfl (by decide)) Zg))) (Jp (DE.PF (ZhM (Zo Z0) (Ze (DE.toA (Vy (Ze (Za (i:=4) (m:=.O) rfl (by decide)) Zg))) Zg))) J4))) (by decide))
   (Zl (Γm:=[.S,.O,.O,.O,.O,.U,.O,.U]) (Jm (VC (J8 (Zbo (DE.toA (VI (Zv (te:=tC .non) (Za (i:=6) (m:=.O) rfl (by decide)) (DE.toA Zd)))))) (Zp (DE.toA (ZQ (g:=(!·)) (Za (i:=6) (m:=.O) rfl (by decide)) (DE.toA (JH (Jp (DE.PF (ZQ (g:=id) (Zv (te:=tC .non) (Za (i:=3) (m:=.O) rfl (by decide)) (DE.toA Zd)) (DE.toA Zd))) (Jp (DE.PF VD) J4))))))))
   (ZK VD)
   ZC)
   (Zl (Γm:=[.S,.O,.O,.O,.U,.U,.O,.O]) (ZU (i:=7) (ZcA (Jp (DE.PF (DE.grd (Zv (te:=tC .non) (Za (i:=3) (m:=.O) rfl (by decide)) (DE.toA Zd)))) (Jp (Vg (i:=4) rfl) (Jp (DE.PF (DE.grd (Zv (te:=tC .non) (Za (i:=3) (m:=.O) rfl (by decide)) (DE.toA Zd)))) J4)))) (by decide))
   (Zl (Γm:=[.S,.O,.O,.O,.U,.U,.O,.O]) (Zbj (i:=3) rfl)
   (ZK (UF (DE.toA (ZQ (g:=id) (DE.toA (ZhN (Zo Z0) (Ze (Za (i:=2) (m:=.O) rfl (by decide)) Zg))) (Za (i:=7) (m:=.O) rfl (by decide)))) (ZQ (g:=id) (Za (i:=2) (m:=.O) rfl (by decide)) (Za (i:=1) (m:=.O) rfl (by decide)))))))))))))))))), ?_⟩
 refine Pm.ref Zkz (g:=fun xs=>_) ?_
 intro (ns:List Int) (hn:ns.length<=63)
 simp only[Zkz]
 walk_at "pd"
 rw[ZiX ⟨by omega,by omega,by omega⟩]
 have hN:(ZaZ ns (63:Int).toNat).length=63:=Qt ..
 generalize ZaZ ns (63:Int).toNat=N at hN
 walk_at "pd"
 rw[Zj6 ⟨by omega,by omega⟩]
 have h:=Zdw N
 generalize Vt N=l at h
 have hl:=h.2.1
 walk_at "pd"
 have hC:=ZjN (l:=l) (by omega)
 rw[JW h] at hC
 obtain⟨h1,h2⟩:=JU h
 have h3:=Zer h
 have h4:=Zbx h
 have hr:=ZH h (Ua l)
 obtain⟨o1,o2,_,_⟩:=Za3 hr h1
 have hB:=Zj7 ⟨hr,h1⟩
 unfold ZaM at hC
 generalize Ua l=n at *
 generalize VS (Qd (mIt n l))=o at *
 rw[hC]
 walk_at "pd"
 rw[Zis]
 walk_at "pd"
 rw[Zis]
 walk_at "pd"
 rw[decide_eq_true (show (0:Int)<=n by omega),decide_eq_true (show (n:Int)<=20000 by omega)]
 walk_at "pd"
 generalize hw:U2 _ _ _=W
 obtain⟨ρ',rfl,v,rfl⟩:=Jl hw (fun i ρ=>∃v,ρ=[.lst (ns.map PV.int),.lst (l.map PV.int),.lst (l.map PV.int),.tup [.int (n:Nat),.lst ((mIt n l).map PV.int),.int (o:Nat)],.lst ((mIt i l).map PV.int),v,.non,.non]) ⟨_,rfl⟩ (by
  rintro i x ρ hx ⟨v,rfl⟩
  obtain⟨hi,rfl⟩:=Jo hx
  walk_at "pd"
  rw[ZiE (ZH h i),ZbA (h2 i (by omega))]
  walk_at "pd"
  rw[ZiV (ZH h i)]
  walk_at "pd"
  exact JR ⟨_,rfl⟩)
 rw[Jb]
 walk_at "pd"
 rw[Zm8]
 rw[ZiY hr]
 walk_at "pd"
 rw[ZiE hr,ZdT h1]
 walk_at "pd"
 rw[show (decide ((1:Int)<=(o:Nat))&&decide (((o:Nat):Int)<=20))=true by rw[decide_eq_true (show (1:Int)<=(o:Nat) by omega),decide_eq_true (show ((o:Nat):Int)<=20 by omega)];rfl]
 walk_at "pd"
 rw[hB]
 walk_at "pd"
 rw[JK h]
 walk_at "pd"
 have hr100:=hr.2.1
 rw[U8 (by omega)]
 walk_at "pd"
 rw[JK hr,ZbB h1]
 walk_at "pd"
 rw[show pIx (.lst [.bl (ZdV l),.bl true]) (.int 0)=.ok (.bl (ZdV l)) from rfl]
 have hrb:ZdV l=decide ((n:Int)=0):=by
  by_cases c:Row l
  ·rw[ZbB c,decide_eq_true (by have:=h4.mp c;omega)]
  ·rw[ZdU c,decide_eq_false (fun z=>c (h4.mpr (by omega)))]
 rw[hrb]
 generalize decide ((n:Int)=0)=bb
 walk_at "pd"
 rw[show VB (Jx (PV.bl bb)) "bool"=true from rfl]
 walk_at "pd"
 rw[show ∀x y z w:PV,pPut (.tup [x,y,z]) 1 w=.ok (.tup [x,w,z]) from fun _ _ _ _=>rfl]
 walk_at "pd"
 rw[hC]
 walk_at "pd"
 rw[Zdm (n:=2) (Zfh fun a ha=>by
  simp only[Zmf,List.not_mem_nil,or_false] at ha
  rcases ha with rfl|rfl|rfl
  ·exact(Uv _).up (by decide)
  ·exact ZdF _
  ·exact(Uv _).up (by decide))]
 walk_at "pd"
theorem ZlH {ns:List Int} (h:ns.length<=63):Zkz.fn [.lst (ns.map PV.int)]=.ok (.bl true):=Pm.fn_eq Zkz ns h (fun _ _=>rfl)
noncomputable def Zb4 (K:W.Frag):Sp:=spF K 1 .P W0 Zkz.fn
theorem Zgh {l:PySem.W.OpenLaw} (T:Txt K mg) {fa:Addr} (hmg:mg "law"=some (.ref fa)):∃fd:FuncData,(∀(s:Shared) (u:Value),BindsTo s fd ⟨[u],[]⟩ [("script",u)]) /\
  ∀base:Heap,K.In base->base.Ns mainGlobals mg->Va l.prog w K mg base CX0 6 fa fd ["script"] (Zb4 K):=by
 obtain⟨f,fd,F,hm⟩:=T.ZlR
 rw[hmg] at hm
 cases hm
 refine⟨fd,fun s u=>?_,fun base _ _=>ZlP T F⟩
 obtain⟨oc,od,kV,doc,pm,an,cdv,ct,osl,rfl,lk,hcd⟩:=F.ex
 exact .of_eq (ZlQ kV doc pm an cdv ct [u] rfl)
theorem Zcq {H:Hp}{a:Addr}{ns:List Int} (hl:ns.length<=63) (hO:ZgC H) (hS:SqL K H a (ns.map V.int)):Zb4 K [.ref a] H (fun v _=>v=.bl true) fun _ _ _=>False:=
 Zbd (Pm.fn_eq Zkz ns hl fun _ _=>rfl) hS
end
theorem Zf1 {K:W.Frag}{h:Heap}{mg:Str->Option Value}{Zku ZkC Zj2 ZiS Zkf Zj3 ZjU Zl1 ZkX Zjq ZkD ZjH Zj4 Zkg ZjT Zjc ZjI Zkv ZlL:Addr} (X:K.In h) (G:h.Ns mainGlobals mg)
  {od__law_line an__law_line:Option Addr}{sl__law_line:Array (Option Value)}{oc__law_line kV__law_line dc__law_line ZiI cd__law_line ct__law_line:Value}
  {od_is_whole an_is_whole:Option Addr}{sl_is_whole:Array (Option Value)}{oc_is_whole kV_is_whole dc_is_whole ZiZ cd_is_whole ct_is_whole:Value}
  {od_is_whole_from an_is_whole_from:Option Addr}{sl_is_whole_from:Array (Option Value)}{oc_is_whole_from kV_is_whole_from dc_is_whole_from Ziv cd_is_whole_from ct_is_whole_from:Value}
  {od_is_list_from_nought an_is_list_from_nought:Option Addr}{sl_is_list_from_nought:Array (Option Value)}{oc_is_list_from_nought kV_is_list_from_nought dc_is_list_from_nought Zin cd_is_list_from_nought ct_is_list_from_nought:Value}
  {od_check_line an_check_line:Option Addr}{sl_check_line:Array (Option Value)}{oc_check_line kV_check_line dc_check_line ZiB cd_check_line ct_check_line:Value}
  {od_greatest_step an_greatest_step:Option Addr}{sl_greatest_step:Array (Option Value)}{oc_greatest_step kV_greatest_step dc_greatest_step Ziw cd_greatest_step ct_greatest_step:Value}
  {od_added_seeds an_added_seeds:Option Addr}{sl_added_seeds:Array (Option Value)}{oc_added_seeds kV_added_seeds dc_added_seeds Zit cd_added_seeds ct_added_seeds:Value}
  {od_march an_march:Option Addr}{sl_march:Array (Option Value)}{oc_march kV_march dc_march Zjl cd_march ct_march:Value}
  {od_turn_by an_turn_by:Option Addr}{sl_turn_by:Array (Option Value)}{oc_turn_by kV_turn_by dc_turn_by Zjg cd_turn_by ct_turn_by:Value}
  {od_turn_to_itself an_turn_to_itself:Option Addr}{sl_turn_to_itself:Array (Option Value)}{oc_turn_to_itself kV_turn_to_itself dc_turn_to_itself Zip cd_turn_to_itself ct_turn_to_itself:Value}
  {od_comes_to an_comes_to:Option Addr}{sl_comes_to:Array (Option Value)}{oc_comes_to kV_comes_to dc_comes_to ZiO cd_comes_to ct_comes_to:Value}
  {od__law_numbers an__law_numbers:Option Addr}{sl__law_numbers:Array (Option Value)}{oc__law_numbers kV__law_numbers dc__law_numbers Zi2 cd__law_numbers ct__law_numbers:Value}
  {od__law_marching an__law_marching:Option Addr}{sl__law_marching:Array (Option Value)}{oc__law_marching kV__law_marching dc__law_marching Zix cd__law_marching ct__law_marching:Value}
  {od__law_march an__law_march:Option Addr}{sl__law_march:Array (Option Value)}{oc__law_march kV__law_march dc__law_march ZiC cd__law_march ct__law_march:Value}
  {od_is_marching an_is_marching:Option Addr}{sl_is_marching:Array (Option Value)}{oc_is_marching kV_is_marching dc_is_marching Ziy cd_is_marching ct_is_marching:Value}
  {od__law_whole_number an__law_whole_number:Option Addr}{sl__law_whole_number:Array (Option Value)}{oc__law_whole_number kV__law_whole_number dc__law_whole_number Zir cd__law_whole_number ct__law_whole_number:Value}
  {od__law_is_line an__law_is_line:Option Addr}{sl__law_is_line:Array (Option Value)}{oc__law_is_line kV__law_is_line dc__law_is_line Zi7 cd__law_is_line ct__law_is_line:Value}
  {od__law_back an__law_back:Option Addr}{sl__law_back:Array (Option Value)}{oc__law_back kV__law_back dc__law_back ZiP cd__law_back ct__law_back:Value}
  {od_law an_law:Option Addr}{sl_law:Array (Option Value)}{oc_law kV_law dc_law Zkz cd_law ct_law:Value}
  (Zkw:PySem.W.nsIn K mainGlobals "_law_line"=some (some (.ref Zku))) (Zkq:K.lookup Zku=some ⟨oc__law_line,od__law_line,.func (PySem.W.fnOf "_law_line" "_law_line" (ZE ZiM) (Z7 ZiM) (Zi ZiM) .none kV__law_line dc__law_line ZiI an__law_line cd__law_line ct__law_line),sl__law_line⟩) (Zj6:PySem.W.codeIn K cd__law_line "_law_line"=true) (Zks:PySem.W.keepIn K (.ref Zku)=true)
  (ZkF:PySem.W.nsIn K mainGlobals "is_whole"=some (some (.ref ZkC))) (Zk7:K.lookup ZkC=some ⟨oc_is_whole,od_is_whole,.func (PySem.W.fnOf "is_whole" "is_whole" (ZE Zje) (Z7 Zje) (Zi Zje) .none kV_is_whole dc_is_whole ZiZ an_is_whole cd_is_whole ct_is_whole),sl_is_whole⟩) (ZjM:PySem.W.codeIn K cd_is_whole "is_whole"=true) (Zk9:PySem.W.keepIn K (.ref ZkC)=true)
  (Zj8:PySem.W.nsIn K mainGlobals "is_whole_from"=some (some (.ref Zj2))) (Zjw:K.lookup Zj2=some ⟨oc_is_whole_from,od_is_whole_from,.func (PySem.W.fnOf "is_whole_from" "is_whole_from" (ZE Ziz) (Z7 Ziz) (Zi Ziz) .none kV_is_whole_from dc_is_whole_from Ziv an_is_whole_from cd_is_whole_from ct_is_whole_from),sl_is_whole_from⟩) (ZiT:PySem.W.codeIn K cd_is_whole_from "is_whole_from"=true) (Zjz:PySem.W.keepIn K (.ref Zj2)=true)
  (ZiW:PySem.W.nsIn K mainGlobals "is_list_from_nought"=some (some (.ref ZiS))) (ZiQ:K.lookup ZiS=some ⟨oc_is_list_from_nought,od_is_list_from_nought,.func (PySem.W.fnOf "is_list_from_nought" "is_list_from_nought" (ZE Zio) (Z7 Zio) (Zi Zio) .none kV_is_list_from_nought dc_is_list_from_nought Zin an_is_list_from_nought cd_is_list_from_nought ct_is_list_from_nought),sl_is_list_from_nought⟩) (Zi3:PySem.W.codeIn K cd_is_list_from_nought "is_list_from_nought"=true) (ZiR:PySem.W.keepIn K (.ref ZiS)=true)
  (Zki:PySem.W.nsIn K mainGlobals "check_line"=some (some (.ref Zkf))) (Zkb:K.lookup Zkf=some ⟨oc_check_line,od_check_line,.func (PySem.W.fnOf "check_line" "check_line" (ZE ZiG) (Z7 ZiG) (Zi ZiG) .none kV_check_line dc_check_line ZiB an_check_line cd_check_line ct_check_line),sl_check_line⟩) (Zjh:PySem.W.codeIn K cd_check_line "check_line"=true) (Zkd:PySem.W.keepIn K (.ref Zkf)=true)
  (Zj9:PySem.W.nsIn K mainGlobals "greatest_step"=some (some (.ref Zj3))) (Zjx:K.lookup Zj3=some ⟨oc_greatest_step,od_greatest_step,.func (PySem.W.fnOf "greatest_step" "greatest_step" (ZE Zi0) (Z7 Zi0) (Zi Zi0) .none kV_greatest_step dc_greatest_step Ziw an_greatest_step cd_greatest_step ct_greatest_step),sl_greatest_step⟩) (ZiU:PySem.W.codeIn K cd_greatest_step "greatest_step"=true) (Zj0:PySem.W.keepIn K (.ref Zj3)=true)
  (ZjW:PySem.W.nsIn K mainGlobals "added_seeds"=some (some (.ref ZjU))) (ZjQ:K.lookup ZjU=some ⟨oc_added_seeds,od_added_seeds,.func (PySem.W.fnOf "added_seeds" "added_seeds" (ZE ZiA) (Z7 ZiA) (Zi ZiA) .none kV_added_seeds dc_added_seeds Zit an_added_seeds cd_added_seeds ct_added_seeds),sl_added_seeds⟩) (ZiD:PySem.W.codeIn K cd_added_seeds "added_seeds"=true) (ZjS:PySem.W.keepIn K (.ref ZjU)=true)
  (Zl6:PySem.W.nsIn K mainGlobals "march"=some (some (.ref Zl1))) (Zlx:K.lookup Zl1=some ⟨oc_march,od_march,.func (PySem.W.fnOf "march" "march" (ZE Zka) (Z7 Zka) (Zi Zka) .none kV_march dc_march Zjl an_march cd_march ct_march),sl_march⟩) (Zlb:PySem.W.codeIn K cd_march "march"=true) (Zly:PySem.W.keepIn K (.ref Zl1)=true)
  (Zle:PySem.W.nsIn K mainGlobals "turn_by"=some (some (.ref ZkX))) (ZkT:K.lookup ZkX=some ⟨oc_turn_by,od_turn_by,.func (PySem.W.fnOf "turn_by" "turn_by" (ZE Zjm) (Z7 Zjm) (Zi Zjm) .none kV_turn_by dc_turn_by Zjg an_turn_by cd_turn_by ct_turn_by),sl_turn_by⟩) (ZjL:PySem.W.codeIn K cd_turn_by "turn_by"=true) (ZkU:PySem.W.keepIn K (.ref ZkX)=true)
  (Zjr:PySem.W.nsIn K mainGlobals "turn_to_itself"=some (some (.ref Zjq))) (Zjo:K.lookup Zjq=some ⟨oc_turn_to_itself,od_turn_to_itself,.func (PySem.W.fnOf "turn_to_itself" "turn_to_itself" (ZE Ziu) (Z7 Ziu) (Zi Ziu) .none kV_turn_to_itself dc_turn_to_itself Zip an_turn_to_itself cd_turn_to_itself ct_turn_to_itself),sl_turn_to_itself⟩) (ZiK:PySem.W.codeIn K cd_turn_to_itself "turn_to_itself"=true) (Zjp:PySem.W.keepIn K (.ref Zjq)=true)
  (ZkG:PySem.W.nsIn K mainGlobals "comes_to"=some (some (.ref ZkD))) (Zk8:K.lookup ZkD=some ⟨oc_comes_to,od_comes_to,.func (PySem.W.fnOf "comes_to" "comes_to" (ZE Zjf) (Z7 Zjf) (Zi Zjf) .none kV_comes_to dc_comes_to ZiO an_comes_to cd_comes_to ct_comes_to),sl_comes_to⟩) (ZjN:PySem.W.codeIn K cd_comes_to "comes_to"=true) (ZkA:PySem.W.keepIn K (.ref ZkD)=true)
  (ZjJ:PySem.W.nsIn K mainGlobals "_law_numbers"=some (some (.ref ZjH))) (ZjD:K.lookup ZjH=some ⟨oc__law_numbers,od__law_numbers,.func (PySem.W.fnOf "_law_numbers" "_law_numbers" (ZE Zi4) (Z7 Zi4) (Zi Zi4) .none kV__law_numbers dc__law_numbers Zi2 an__law_numbers cd__law_numbers ct__law_numbers),sl__law_numbers⟩) (ZiX:PySem.W.codeIn K cd__law_numbers "_law_numbers"=true) (ZjF:PySem.W.keepIn K (.ref ZjH)=true)
  (ZjA:PySem.W.nsIn K mainGlobals "_law_marching"=some (some (.ref Zj4))) (Zjy:K.lookup Zj4=some ⟨oc__law_marching,od__law_marching,.func (PySem.W.fnOf "_law_marching" "_law_marching" (ZE Zi1) (Z7 Zi1) (Zi Zi1) .none kV__law_marching dc__law_marching Zix an__law_marching cd__law_marching ct__law_marching),sl__law_marching⟩) (ZiE:PySem.W.codeIn K cd__law_marching "_law_marching"=true) (Zj1:PySem.W.keepIn K (.ref Zj4)=true)
  (Zkj:PySem.W.nsIn K mainGlobals "_law_march"=some (some (.ref Zkg))) (Zkc:K.lookup Zkg=some ⟨oc__law_march,od__law_march,.func (PySem.W.fnOf "_law_march" "_law_march" (ZE ZiH) (Z7 ZiH) (Zi ZiH) .none kV__law_march dc__law_march ZiC an__law_march cd__law_march ct__law_march),sl__law_march⟩) (ZiV:PySem.W.codeIn K cd__law_march "_law_march"=true) (Zke:PySem.W.keepIn K (.ref Zkg)=true)
  (ZjV:PySem.W.nsIn K mainGlobals "is_marching"=some (some (.ref ZjT))) (ZjP:K.lookup ZjT=some ⟨oc_is_marching,od_is_marching,.func (PySem.W.fnOf "is_marching" "is_marching" (ZE Zi9) (Z7 Zi9) (Zi Zi9) .none kV_is_marching dc_is_marching Ziy an_is_marching cd_is_marching ct_is_marching),sl_is_marching⟩) (Zji:PySem.W.codeIn K cd_is_marching "is_marching"=true) (ZjR:PySem.W.keepIn K (.ref ZjT)=true)
  (Zjd:PySem.W.nsIn K mainGlobals "_law_whole_number"=some (some (.ref Zjc))) (Zja:K.lookup Zjc=some ⟨oc__law_whole_number,od__law_whole_number,.func (PySem.W.fnOf "_law_whole_number" "_law_whole_number" (ZE Ziq) (Z7 Ziq) (Zi Ziq) .none kV__law_whole_number dc__law_whole_number Zir an__law_whole_number cd__law_whole_number ct__law_whole_number),sl__law_whole_number⟩) (Zis:PySem.W.codeIn K cd__law_whole_number "_law_whole_number"=true) (Zjb:PySem.W.keepIn K (.ref Zjc)=true)
  (ZjK:PySem.W.nsIn K mainGlobals "_law_is_line"=some (some (.ref ZjI))) (ZjE:K.lookup ZjI=some ⟨oc__law_is_line,od__law_is_line,.func (PySem.W.fnOf "_law_is_line" "_law_is_line" (ZE Zi5) (Z7 Zi5) (Zi Zi5) .none kV__law_is_line dc__law_is_line Zi7 an__law_is_line cd__law_is_line ct__law_is_line),sl__law_is_line⟩) (ZiY:PySem.W.codeIn K cd__law_is_line "_law_is_line"=true) (ZjG:PySem.W.keepIn K (.ref ZjI)=true)
  (Zkx:PySem.W.nsIn K mainGlobals "_law_back"=some (some (.ref Zkv))) (Zkr:K.lookup Zkv=some ⟨oc__law_back,od__law_back,.func (PySem.W.fnOf "_law_back" "_law_back" (ZE ZiN) (Z7 ZiN) (Zi ZiN) .none kV__law_back dc__law_back ZiP an__law_back cd__law_back ct__law_back),sl__law_back⟩) (Zj7:PySem.W.codeIn K cd__law_back "_law_back"=true) (Zkt:PySem.W.keepIn K (.ref Zkv)=true)
  (ZlN:PySem.W.nsIn K mainGlobals "law"=some (some (.ref ZlL))) (ZlJ:K.lookup ZlL=some ⟨oc_law,od_law,.func (PySem.W.fnOf "law" "law" (ZE Zlr) (Z7 Zlr) (Zi Zlr) .none kV_law dc_law Zkz an_law cd_law ct_law),sl_law⟩) (ZlH:PySem.W.codeIn K cd_law "law"=true) (ZlK:PySem.W.keepIn K (.ref ZlL)=true)
  {t_MOST_LINE_PITS:Tok} (a_MOST_LINE_PITS:PySem.W.nsIn K mainGlobals "MOST_LINE_PITS"=some (some (.int 100 t_MOST_LINE_PITS)))
  {t_MOST_LINE_SEEDS:Tok} (a_MOST_LINE_SEEDS:PySem.W.nsIn K mainGlobals "MOST_LINE_SEEDS"=some (some (.int 100 t_MOST_LINE_SEEDS)))
  (z_all:PySem.W.nsIn K mainGlobals "all"=some none)
  (z_bool:PySem.W.nsIn K mainGlobals "bool"=some none)
  (z_enumerate:PySem.W.nsIn K mainGlobals "enumerate"=some none)
  (z_int:PySem.W.nsIn K mainGlobals "int"=some none)
  (z_isinstance:PySem.W.nsIn K mainGlobals "isinstance"=some none)
  (z_len:PySem.W.nsIn K mainGlobals "len"=some none)
  (z_list:PySem.W.nsIn K mainGlobals "list"=some none)
  (z_range:PySem.W.nsIn K mainGlobals "range"=some none)
  (z_sum:PySem.W.nsIn K mainGlobals "sum"=some none)
  (z_tuple:PySem.W.nsIn K mainGlobals "tuple"=some none)
  (x_tab:Zhy K XN XS=true) (x_exc:Zep K XR=true)
  :Txt K mg:=by
 refine⟨?_, ?_, ?_, ?_, ?_, ?_, ?_, ?_, ?_, ?_, ?_, ?_, ?_, ?_, ?_, ?_, ?_, ?_, ?_, ?_, ?_, ?_, ?_, ?_, ?_, ?_, ?_, ?_, ?_, ?_, ?_,x_tab,x_exc,fun n C e=>PySem.W.mg_of X G e⟩
 ·exact⟨_,_,Jh (st:=ZiM) Zkq Zj6 Zks,PySem.W.mg_of X G Zkw⟩
 ·exact⟨_,_,Jh (st:=Zje) Zk7 ZjM Zk9,PySem.W.mg_of X G ZkF⟩
 ·exact⟨_,_,Jh (st:=Ziz) Zjw ZiT Zjz,PySem.W.mg_of X G Zj8⟩
 ·exact⟨_,_,Jh (st:=Zio) ZiQ Zi3 ZiR,PySem.W.mg_of X G ZiW⟩
 ·exact⟨_,_,Jh (st:=ZiG) Zkb Zjh Zkd,PySem.W.mg_of X G Zki⟩
 ·exact⟨_,_,Jh (st:=Zi0) Zjx ZiU Zj0,PySem.W.mg_of X G Zj9⟩
 ·exact⟨_,_,Jh (st:=ZiA) ZjQ ZiD ZjS,PySem.W.mg_of X G ZjW⟩
 ·exact⟨_,_,Jh (st:=Zka) Zlx Zlb Zly,PySem.W.mg_of X G Zl6⟩
 ·exact⟨_,_,Jh (st:=Zjm) ZkT ZjL ZkU,PySem.W.mg_of X G Zle⟩
 ·exact⟨_,_,Jh (st:=Ziu) Zjo ZiK Zjp,PySem.W.mg_of X G Zjr⟩
 ·exact⟨_,_,Jh (st:=Zjf) Zk8 ZjN ZkA,PySem.W.mg_of X G ZkG⟩
 ·exact⟨_,_,Jh (st:=Zi4) ZjD ZiX ZjF,PySem.W.mg_of X G ZjJ⟩
 ·exact⟨_,_,Jh (st:=Zi1) Zjy ZiE Zj1,PySem.W.mg_of X G ZjA⟩
 ·exact⟨_,_,Jh (st:=ZiH) Zkc ZiV Zke,PySem.W.mg_of X G Zkj⟩
 ·exact⟨_,_,Jh (st:=Zi9) ZjP Zji ZjR,PySem.W.mg_of X G ZjV⟩
 ·exact⟨_,_,Jh (st:=Ziq) Zja Zis Zjb,PySem.W.mg_of X G Zjd⟩
 ·exact⟨_,_,Jh (st:=Zi5) ZjE ZiY ZjG,PySem.W.mg_of X G ZjK⟩
 ·exact⟨_,_,Jh (st:=ZiN) Zkr Zj7 Zkt,PySem.W.mg_of X G Zkx⟩
 ·exact⟨_,_,Jh (st:=Zlr) ZlJ ZlH ZlK,PySem.W.mg_of X G ZlN⟩
 ·exact⟨_,PySem.W.mg_of X G a_MOST_LINE_PITS⟩
 ·exact⟨_,PySem.W.mg_of X G a_MOST_LINE_SEEDS⟩
 ·exact PySem.W.mg_none_of X G z_all
 ·exact PySem.W.mg_none_of X G z_bool
 ·exact PySem.W.mg_none_of X G z_enumerate
 ·exact PySem.W.mg_none_of X G z_int
 ·exact PySem.W.mg_none_of X G z_isinstance
 ·exact PySem.W.mg_none_of X G z_len
 ·exact PySem.W.mg_none_of X G z_list
 ·exact PySem.W.mg_none_of X G z_range
 ·exact PySem.W.mg_none_of X G z_sum
 ·exact PySem.W.mg_none_of X G z_tuple
end My
namespace PySem.W.Fast
noncomputable def tw10039567442137851008:=()
noncomputable def tw1667108489521737888:=()
noncomputable def tw2868458843767432736:=()
noncomputable def tw14972631274319887936:=()
noncomputable def tw9871229039587954560:=()
noncomputable def tw14002057927029532640:=()
noncomputable def tw15852038651768498144:=()
noncomputable def tw7427388273564061889:=()
noncomputable def tw16371382442858273217:=()
noncomputable def tw5349915004880861729:=()
noncomputable def tw7337917811010574913:=()
noncomputable def tw7764921573833050945:=()
noncomputable def tw716503166968061793:=()
noncomputable def tw3888089116339105761:=()
noncomputable def tw16666216139502877858:=()
noncomputable def tw16879757069000280962:=()
noncomputable def tw13411430377863983139:=()
noncomputable def tw5688024296742684739:=()
noncomputable def tw6866943805911720163:=()
noncomputable def tw7869097947959771491:=()
noncomputable def tw10675370368191001507:=()
noncomputable def tw16062507200856051236:=()
noncomputable def tw18436610004260922340:=()
noncomputable def tw4036394951813938213:=()
noncomputable def tw1376280374843772037:=()
noncomputable def tw11333013350990833829:=()
noncomputable def tw17303555934392829605:=()
noncomputable def tw4385589958985018117:=()
noncomputable def tw5049745781722681157:=()
noncomputable def tw3650096015501185893:=()
noncomputable def tw7814236605625850886:=()
noncomputable def tw13137624984928477222:=()
noncomputable def tw13196028988740296038:=()
noncomputable def tw14242485635155693990:=()
noncomputable def tw5604852331639000550:=()
noncomputable def tw11040219835218685798:=()
noncomputable def tw11875988515073246631:=()
noncomputable def tw17642003987265489639:=()
noncomputable def tw15251788812945355912:=()
noncomputable def tw18380929942037618056:=()
noncomputable def tw17664076292044586952:=()
noncomputable def tw13044252393812533257:=()
noncomputable def tw9948257728251598185:=()
noncomputable def tw4361563648985591177:=()
noncomputable def tw6273260377221685673:=()
noncomputable def tw9994177087124442089:=()
noncomputable def tw17647743358388959370:=()
noncomputable def tw5031287663676839178:=()
noncomputable def tw4554008601492044330:=()
noncomputable def tw12262336508120644298:=()
noncomputable def tw8511894057808312010:=()
noncomputable def tw10489097024734431978:=()
noncomputable def tw17615488351443087274:=()
noncomputable def tw14509177005033532683:=()
noncomputable def tw13636356564598381899:=()
noncomputable def tw12369287556741848523:=()
noncomputable def tw18221831817366806187:=()
noncomputable def tw10890107193867372267:=()
noncomputable def tw62538351174129579:=()
noncomputable def tw14534512001684932652:=()
noncomputable def tw13182987848825920012:=()
noncomputable def tw8425376334044145164:=()
noncomputable def tw3824264177551140396:=()
noncomputable def tw15919202199465368364:=()
noncomputable def tw14258017446354111693:=()
noncomputable def tw15556813764627077389:=()
noncomputable def tw8418453572778175149:=()
noncomputable def tw6896419136171952013:=()
noncomputable def tw12209150681440256078:=()
noncomputable def tw15427163776628983950:=()
noncomputable def tw10068196359187034286:=()
noncomputable def tw18065566540535851406:=()
noncomputable def tw15882375092229748238:=()
noncomputable def tw6913140292008140911:=()
noncomputable def tw13666415431089924463:=()
noncomputable def tw4435035979980220367:=()
noncomputable def tw15788234896033653808:=()
noncomputable def tw5869218805023598736:=()
noncomputable def tw14031766162076635312:=()
noncomputable def tw2537625540330486096:=()
noncomputable def tw6521710165477938800:=()
noncomputable def tw13693273191339767600:=()
noncomputable def tw2594555671997024433:=()
noncomputable def tw11775744471015212945:=()
noncomputable def tw9952768875788001458:=()
noncomputable def tw13283914736147883282:=()
noncomputable def tw4986021927958974066:=()
noncomputable def tw12024051682038434515:=()
noncomputable def tw81892227642366996:=()
noncomputable def tw1862640585706328212:=()
noncomputable def tw4009406678413989332:=()
noncomputable def tw4679573839287187509:=()
noncomputable def tw6918534773310865621:=()
noncomputable def tw6028072303843767701:=()
noncomputable def tw6430802885369969365:=()
noncomputable def tw7592119282898708277:=()
noncomputable def tw6813057831607374966:=()
noncomputable def tw1286218322203172214:=()
noncomputable def tw3615151628745878166:=()
noncomputable def tw12287863288267138710:=()
noncomputable def tw17216121053786863382:=()
noncomputable def tw5063376527254317974:=()
noncomputable def tw3170629622382795734:=()
noncomputable def tw5566432645047208535:=()
noncomputable def tw2313496645920909047:=()
noncomputable def tw11773408723965658103:=()
noncomputable def tw7710399616204929144:=()
noncomputable def tw9892124710197771800:=()
noncomputable def tw10178654650771109464:=()
noncomputable def tw15441853129518846680:=()
noncomputable def tw6698902586529365848:=()
noncomputable def tw10846395793651346360:=()
noncomputable def tw7766051061812744249:=()
noncomputable def tw2937164831820778713:=()
noncomputable def tw9209247892742628697:=()
noncomputable def tw13165177770557047161:=()
noncomputable def tw6465702380113694329:=()
noncomputable def tw9589591691083963610:=()
noncomputable def tw7015676594721094490:=()
noncomputable def tw2178755417012618138:=()
noncomputable def tw5520757858772414458:=()
noncomputable def tw3857677675902874267:=()
noncomputable def tw1333445967659332347:=()
noncomputable def tw936967320514404540:=()
noncomputable def tw7662448208973967132:=()
noncomputable def tw2301388762424319868:=()
noncomputable def tw13712663458601987229:=()
noncomputable def tw13673623072867710429:=()
noncomputable def tw9907033689814441533:=()
noncomputable def tw13615069819850043069:=()
noncomputable def tw8059317857028194141:=()
noncomputable def tw4800259114202618845:=()
noncomputable def tw10799453165596293374:=()
noncomputable def tw3316346888888603294:=()
noncomputable def tw5222166008953827070:=()
noncomputable def tw13075891683593284382:=()
noncomputable def tw8265859086967453919:=()
noncomputable def tw12148061635887398239:=()
noncomputable def tw3790737371904498367:=()
noncomputable def tw9079148124719510399:=()
noncomputable def tw17028236020585726879:=()
noncomputable def tw7179483013593312223:=()
noncomputable def tw17878637254371905922:=()
noncomputable def tw4207069807951863195:=()
noncomputable def tw10146337699832537128:=()
noncomputable def tw11477484957608295053:=()
noncomputable def tw15945048079658842854:=()
noncomputable def tw17005313061505717369:=()
noncomputable def tw14654748647966111436:=()
noncomputable def tw10943672875890637229:=()
noncomputable def tw5383059463943804068:=()
noncomputable def tw14995410898087065523:=()
noncomputable def tw15865065236226628047:=()
noncomputable def tw16437209129976290932:=()
noncomputable def tw11358145496267492109:=()
noncomputable def tw968249824809835464:=()
noncomputable def tw16142525546676239040:=()
noncomputable def tw3260421628518383926:=()
noncomputable def tw561383289422420568:=()
noncomputable def tw13120031515642885265:=()
noncomputable def tw16188764382450282511:=()
end PySem.W.Fast
open PySem PySem.W PyProof.Rows
set_option maxRecDepth 100000 in
set_option maxHeartbeats 0 in
theorem PySem.Challenge.cw_sowring_k37_whole_comes_to_marching_holds : PySem.Challenge.rw_sowring_k37_whole_comes_to_marching.Holds := by
 w_on;o_law;k_head;(case hw=>w_witness2)
 k_fill
 refine L2.ZcQ (l:=PySem.Challenge.rw_sowring_k37_whole_comes_to_marching) (n:=63) (k:=6) (x := "script") (CX:=L2.CX0) (sp:=My.Zb4) rfl (by decide) rfl ⟨rfl,by decide,by decide⟩ (fun w h Y=>by first|exact PySem.W.kIn_of Y|exact PySem.W.km_in_of Y) ?F ?S ?C
 case F =>
  intro w mg fa h KX G hmg
  have T:My.Txt (L2.KOf KX) mg:=by
   dsimp only[L2.KOf]
   refine' My.Zf1 KX G ?Zkw ?Zkq ?Zj6 ?Zks ?ZkF ?Zk7 ?ZjM ?Zk9 ?Zj8 ?Zjw ?ZiT ?Zjz ?ZiW ?ZiQ ?Zi3 ?ZiR ?Zki ?Zkb ?Zjh ?Zkd ?Zj9 ?Zjx ?ZiU ?Zj0 ?ZjW ?ZjQ ?ZiD ?ZjS ?Zl6 ?Zlx ?Zlb ?Zly ?Zle ?ZkT ?ZjL ?ZkU ?Zjr ?Zjo ?ZiK ?Zjp ?ZkG ?Zk8 ?ZjN ?ZkA ?ZjJ ?ZjD ?ZiX ?ZjF ?ZjA ?Zjy ?ZiE ?Zj1 ?Zkj ?Zkc ?ZiV ?Zke ?ZjV ?ZjP ?Zji ?ZjR ?Zjd ?Zja ?Zis ?Zjb ?ZjK ?ZjE ?ZiY ?ZjG ?Zkx ?Zkr ?Zj7 ?Zkt ?ZlN ?ZlJ ?ZlH ?ZlK ?a_MOST_LINE_PITS ?a_MOST_LINE_SEEDS ?z_all ?z_bool ?z_enumerate ?z_int ?z_isinstance ?z_len ?z_list ?z_range ?z_sum ?z_tuple ?x_tab ?x_exc
   (case Zkw=>k_is)
   (case Zkq=>k_is)
   (case Zj6=>k_is)
   (case Zks=>k_is)
   (case ZkF=>k_is)
   (case Zk7=>k_is)
   (case ZjM=>k_is)
   (case Zk9=>k_is)
   (case Zj8=>k_is)
   (case Zjw=>k_is)
   (case ZiT=>k_is)
   (case Zjz=>k_is)
   (case ZiW=>k_is)
   (case ZiQ=>k_is)
   (case Zi3=>k_is)
   (case ZiR=>k_is)
   (case Zki=>k_is)
   (case Zkb=>k_is)
   (case Zjh=>k_is)
   (case Zkd=>k_is)
   (case Zj9=>k_is)
   (case Zjx=>k_is)
   (case ZiU=>k_is)
   (case Zj0=>k_is)
   (case ZjW=>k_is)
   (case ZjQ=>k_is)
   (case ZiD=>k_is)
   (case ZjS=>k_is)
   (case Zl6=>k_is)
   (case Zlx=>k_is)
   (case Zlb=>k_is)
   (case Zly=>k_is)
   (case Zle=>k_is)
   (case ZkT=>k_is)
   (case ZjL=>k_is)
   (case ZkU=>k_is)
   (case Zjr=>k_is)
   (case Zjo=>k_is)
   (case ZiK=>k_is)
   (case Zjp=>k_is)
   (case ZkG=>k_is)
   (case Zk8=>k_is)
   (case ZjN=>k_is)
   (case ZkA=>k_is)
   (case ZjJ=>k_is)
   (case ZjD=>k_is)
   (case ZiX=>k_is)
   (case ZjF=>k_is)
   (case ZjA=>k_is)
   (case Zjy=>k_is)
   (case ZiE=>k_is)
   (case Zj1=>k_is)
   (case Zkj=>k_is)
   (case Zkc=>k_is)
   (case ZiV=>k_is)
   (case Zke=>k_is)
   (case ZjV=>k_is)
   (case ZjP=>k_is)
   (case Zji=>k_is)
   (case ZjR=>k_is)
   (case Zjd=>k_is)
   (case Zja=>k_is)
   (case Zis=>k_is)
   (case Zjb=>k_is)
   (case ZjK=>k_is)
   (case ZjE=>k_is)
   (case ZiY=>k_is)
   (case ZjG=>k_is)
   (case Zkx=>k_is)
   (case Zkr=>k_is)
   (case Zj7=>k_is)
   (case Zkt=>k_is)
   (case ZlN=>k_is)
   (case ZlJ=>k_is)
   (case ZlH=>k_is)
   (case ZlK=>k_is)
   (case a_MOST_LINE_PITS=>k_is)
   (case a_MOST_LINE_SEEDS=>k_is)
   (case z_all=>k_is)
   (case z_bool=>k_is)
   (case z_enumerate=>k_is)
   (case z_int=>k_is)
   (case z_isinstance=>k_is)
   (case z_len=>k_is)
   (case z_list=>k_is)
   (case z_range=>k_is)
   (case z_sum=>k_is)
   (case z_tuple=>k_is)
   (case x_tab=>kernel_rfl)
   (case x_exc=>kernel_rfl)
  exact My.Zgh T hmg
 case S=>exact fun K H a ns hl hO hS=>My.Zcq hl hO hS
 case C=>exact fun _ _ _ _ z=>z
