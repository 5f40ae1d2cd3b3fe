import PyProof.Rows.All
import Wide.All
import OpenK.AllK
import Wide.FinOn
import Lean
import PyProof.EqAt
import PyProof.EqKinds
import PyProof.TupleCall
import KE.KTryMore
import PyProof.NsDelKeeps
import PyProof.EnumStmt
import KE.KRevIter
import PyProof.ListNew
import PyProof.Rows.SortRuns
import KE.KIntText
import PyProof.ListRange
import PyProof.Rows.Range3
import PyProof.Rows.TupDisplay
import KE.KSortTup
import PyProof.DictWalks
import PyProof.DictTruth
import PySem.Challenge.RW_sowring_k22_whole_least_way
open List renaming getD_eq_getElem?_getD->ZsO,getElem?_eq_getElem->ZsP,mem_of_getElem?->ZsQ,getElem?_eq_some_iff->ZsR,mem_append->ZsS,mem_append_right->ZsT,length_map->ZsV,mem_append_left->ZsW,getElem?_append_right->ZsY,mem_cons->ZsZ,append_assoc->Zta,getElem?_append_left->Ztb,size_toArray->Ztd,pairwise_append->Zte,getElem?_map->Ztf,map_cons->Ztg,drop_eq_getElem_cons->Zth,mem_singleton->Zti,getElem?_set_ne->Ztj,length_take->Ztk,length_cons->Ztl,mem_map->Ztm,getElem?_set_self->Zto,take_append_drop->Ztq,mem_of_mem_take->Ztt,mem_range->Ztv,take_of_length_le->Ztw,mem_cons_of_mem->Ztx,mem_of_mem_drop->Zty,getElem?_eq_none->Zt2,getElem?_eq_none_iff->Zt3,extract_eq_take_drop->Zt4,map_map->Zt6,length_append->Zt7,getElem?_take->Zt8,getElem?_drop->ZtB,lookup_cons->ZtC,all_eq_true->ZtD,drop_eq_nil_of_le->ZtE,mem_cons_self->ZtG,length_set->ZtH,map_append->ZtI,pairwise_cons->ZtJ,getElem?_of_mem->ZtK,length_drop->ZtL,nodup_iff_pairwise_ne->ZtM,drop_of_length_le->ZtN,perm_append_comm->ZtO,sum_cons->ZtR,append_nil->ZtS,nil_append->ZtT,map_congr_left->ZtU,take_length->ZtV,pairwise_iff_getElem->ZtY,foldl_cons->Zua,pairwise_map->Zub,nodup_append->Zuc,getElem?_range->Zud,cons_append->Zue,take_append_of_le_length->Zuf,mem_filter->Zug,nodup_cons->Zuh,singleton_append->Zui,find?_cons->Zuj,reverse_cons->Zuk,any_cons->Zul,foldl_append->Zum,drop_zero->Zun,take_succ->Zuo,getElem_mem->Zup,filter_eq_self->Zuq,find?_range_eq_some->Zur,getElem?_replicate->Zus,getElem?_cons_succ->Zut,length_nil->Zuu,zip_cons_cons->Zuv,find?_eq_none->Zuw,range_succ->Zux,ext_getElem?->Zuy,length_range->Zu1,length_singleton->Zu2,contains_iff_mem->Zu4,length_filter_le->Zu7,getElem?_replicate_of_lt->Zu9,ext_getElem->ZuA,filterMap_cons->ZuD,length_pos_iff->ZuG,getD_cons_succ->ZuH,map_id->ZuJ,getElem_of_mem->ZuK,mem_filterMap->ZuP,map_nil->ZuQ,set_cons_succ->ZuR,not_mem_nil->ZuU,map_reverse->ZuV,of_mem_zip->ZuX
open Nat renaming le_refl->ZsU,lt_of_lt_of_le->Ztc,zero_le->Ztp,le_trans->Ztu,ne_of_lt->Zt5,zero_add->ZtA,lt_irrefl->ZtF,lt_of_le_of_lt->ZtW,zero_lt_of_lt->Zu0,sub_self->Zu3,succ_pos->Zu5,pow_le_pow_right->ZuB,min_le_left->ZuE,add_mul->ZuM,ne_of_gt->ZuW
open Int renaming emod_lt_of_pos->Ztn,toNat_natCast->Ztr,emod_nonneg->Zts,toNat_of_nonneg->Zt0,emod_eq_of_lt->Zt9,emod_add_mul_ediv->ZtP,mul_le_mul_of_nonneg_left->ZtQ,zero_add->ZtX,mul_ediv_add_emod->Zu6,le_refl->ZuF,ediv_nonneg->ZuL,zero_emod->ZuS,sub_self->ZuY,add_zero->ZuZ
open Array renaming length_toList->ZsX,getElem?_toList->Ztz,toList_extract->ZtZ,toList_push->Zuz,toList_append->ZuI,toList_setIfInBounds->ZuN,perm_iff_toList_perm->ZuO,toList_map->ZuT
open Option renaming map_eq_some_iff->Zt1,getD_some->Zu8,toList->ZuC
set_option Elab.async false
set_option linter.all false
set_option maxRecDepth 100000
namespace L2
open PySem PySem.Spec PyProof.Rows
noncomputable abbrev Key:=Sum Int Str
noncomputable def Zeu:Key->Value->Bool
 |.inl k,v=>Value.isInt k v
 |.inr x,v=>Value.isStrOf x v
noncomputable def Zno (w:World):Key->Int
 |.inl k=>hashInt k
 |.inr x=>hashStr w x
theorem ZZ:∀{k:Key}{v:Value},Zeu k v=true->(∃i t,k=Sum.inl i/\v=Value.int i t)\/(∃x t,k=Sum.inr x/\v=Value.str x t)
 |.inl i,v,h=>by
  obtain⟨t,e⟩:=Value.isInt_shape (k:=i) (v:=v) h
  exact .inl ⟨i,t,rfl,e⟩
 |.inr x,v,h=>by
  obtain⟨t,e⟩:=Value.isStrOf_shape (x:=x) (v:=v) h
  exact .inr ⟨x,t,rfl,e⟩
theorem ZfE (i:Int) (t:Tok):Zeu (.inl i) (.int i t)=true:=by simp[Zeu,Value.isInt]
theorem ZfD (x:Str) (t:Tok):Zeu (.inr x) (.str x t)=true:=by simp[Zeu,Value.isStrOf]
theorem Zlc (a b:Int):decide ((Sum.inl a:Key)=Sum.inl b)=(a==b):=by
 by_cases e:a=b
 ·subst e;simp
 ·have h:¬(Sum.inl a:Key)=Sum.inl b:=fun q=>e (Sum.inl.inj q)
  rw[decide_eq_false h]
  exact(beq_eq_false_iff_ne.mpr e).symm
theorem ZkZ (a b:Str):decide ((Sum.inr a:Key)=Sum.inr b)=decide (a=b):=by
 by_cases e:a=b
 ·subst e;simp
 ·have h:¬(Sum.inr a:Key)=Sum.inr b:=fun q=>e (Sum.inr.inj q)
  rw[decide_eq_false h,decide_eq_false e]
theorem Zlb (a:Int) (b:Str):decide ((Sum.inl a:Key)=Sum.inr b)=false:=decide_eq_false (fun q=>nomatch q)
theorem Zla (a:Str) (b:Int):decide ((Sum.inr a:Key)=Sum.inl b)=false:=decide_eq_false (fun q=>nomatch q)
noncomputable def Jx (prog:Program) (w:World):PySem.KeyKind prog w Key where
 is:=Zeu
 hash:=Zno w
 inj:=fun v a b ha hb=>by
  rcases ZZ ha with ⟨i,t,rfl,rfl⟩|⟨x,t,rfl,rfl⟩
  ·rcases ZZ hb with ⟨j,u,rfl,e⟩|⟨y,u,rfl,e⟩
   ·injection e with e1 _;rw[e1]
   ·exact nomatch e
  ·rcases ZZ hb with ⟨j,u,rfl,e⟩|⟨y,u,rfl,e⟩
   ·exact nomatch e
   ·injection e with e1 _;rw[e1]
 byValue:=fun k v h=>by
  rcases ZZ h with ⟨i,t,rfl,rfl⟩|⟨x,t,rfl,rfl⟩<;>rfl
 pyHash:=fun hv h=>by
  rcases ZZ hv with ⟨i,t,rfl,rfl⟩|⟨x,t,rfl,rfl⟩
  ·exact wpAny_pyHash_int h
  ·exact wpAny_pyHash_str h
 eqBool:=fun hu hv h=>by
  rcases ZZ hu with ⟨i,t,rfl,rfl⟩|⟨x,t,rfl,rfl⟩
  ·rcases ZZ hv with ⟨j,u,rfl,rfl⟩|⟨y,u,rfl,rfl⟩
   ·rw[Zlc] at h;exact wpAny_eqBool_int h
   ·rw[Zlb] at h;exact SeqAt.EqAt.int_str i t y u _ _ _ _ h
  ·rcases ZZ hv with ⟨j,u,rfl,rfl⟩|⟨y,u,rfl,rfl⟩
   ·rw[Zla] at h;exact SeqAt.EqAt.str_int x t j u _ _ _ _ h
   ·rw[ZkZ] at h;exact wpAny_eqBool_str h
 «strs»:=fun k x t v h=>by
  rcases ZZ h with ⟨i,u,rfl,e⟩|⟨y,u,rfl,e⟩
  ·exact nomatch e
  ·injection e with e1 _
   subst e1
   cases v<;>rfl
theorem Zcr (prog:Program) (w:World) (i:Int) (t:Tok):(Jx prog w).is (.inl i) (.int i t)=true:=ZfE i t
theorem Zcq (prog:Program) (w:World) (x:Str) (t:Tok):(Jx prog w).is (.inr x) (.str x t)=true:=ZfD x t
inductive V where
 |non|bl (b:Bool)|int (i:Int)|str (x:Str)|byt (b:Array UInt8)|flt (b:UInt64)|ref (a:Addr)|ty (n:String)
 deriving DecidableEq
noncomputable def Jo:V->Value->Prop
 |.non,u=>u=Value.none
 |.bl b,u=>u=Value.bool b
 |.int i,u=>∃t,u=Value.int i t
 |.str x,u=>∃t,u=Value.str x t
 |.byt b,u=>∃t,u=Value.bytes b t
 |.flt b,u=>∃t,u=Value.float b t
 |.ref a,u=>u=Value.ref a
 |.ty n,u=>u=Value.type n
noncomputable abbrev ZX:List V->List Value->Prop:=Paired Jo
theorem ZX.length {xs:List V}{us:List Value} (r:ZX xs us):xs.length=us.length:=Paired.length r
theorem ZX.get:∀{xs:List V}{us:List Value}{i:Nat}{x:V},ZX xs us->xs[i]?=some x->∃u,us[i]?=some u/\Jo x u
 |_,_,_,_,.nil,e=>by simp at e
 |_,_,0,_,.cons r _,e=>by simp at e;subst e;exact⟨_,rfl,r⟩
 |_,_,i+1,x,.cons _ t,e=>by
  obtain⟨u,h1,h2⟩:=ZX.get (i:=i) (x:=x) t (by simpa using e)
  exact⟨u,by simpa using h1,h2⟩
theorem ZX.set {x:V}{u:Value} (r:Jo x u):∀{xs:List V}{us:List Value} (i:Nat),ZX xs us->ZX (xs.set i x) (us.set i u)
 |_,_,_,.nil=>.nil
 |_,_,0,.cons _ t=>.cons r t
 |_,_,i+1,.cons q t=>.cons q (ZX.set r i t)
theorem ZX.append:∀{xs ys:List V}{us ws:List Value},ZX xs us->ZX ys ws->ZX (xs++ys) (us++ws)
 |_,_,_,_,.nil,s=>s
 |_,_,_,_,.cons r t,s=>.cons r (ZX.append t s)
theorem ZX.take:∀{xs:List V}{us:List Value} (n:Nat),ZX xs us->ZX (xs.take n) (us.take n)
 |_,_,0,_=>.nil
 |_,_,_+1,.nil=>.nil
 |_,_,n+1,.cons r t=>.cons r (ZX.take n t)
theorem ZX.drop:∀{xs:List V}{us:List Value} (n:Nat),ZX xs us->ZX (xs.drop n) (us.drop n)
 |_,_,0,r=>r
 |_,_,_+1,.nil=>.nil
 |_,_,n+1,.cons _ t=>ZX.drop n t
noncomputable def Zg9:Option V->Option Value->Prop
 |some v,some u=>Jo v u
 |none,none=>True
 |_,_=>False
def KV {κ:Type}:List (κ×V)->List (κ×Value)->Prop:=Paired fun(p:κ×V) (q:κ×Value)=>p.1=q.1/\Jo p.2 q.2
noncomputable def kV:Key->V
 |.inl i=>.int i
 |.inr x=>.str x
inductive HO where
  |lst (xs:List V)
  |tup (xs:List V)
  |dK (kvs:List (Key×V))|dT (kvs:List (List Key×V))
  |set (S:Int->Bool) (n:Nat)
  |ins (C dx:Addr) (fs:List (Str×V))
  |own (x:Addr)
  |xd (fs:List (Str×V))
  |met (f x:Addr)
  |rng (lo hi:Int)
  |frz (o:Obj) (u:HO)
  |tbl (ps:Array Value)
  |ext (φ:Heap->Prop)
noncomputable abbrev Hp:=Addr->Option HO
noncomputable def upd (H:Hp) (a:Addr) (o:HO):Hp:=fun b=>if b=a then some o else H b
theorem Z2 {H:Hp}{a:Addr}{o:HO}:upd H a o a=some o:=by unfold upd;rw[if_pos rfl]
theorem Zr {H:Hp}{a b:Addr}{o:HO} (h:b≠a):upd H a o b=H b:=by unfold upd;rw[if_neg h]
theorem Zja {H:Hp}{a b:Addr}{o u:HO} (h:H a=some o) (h':H b=some u) (d:o≠u):a≠b:=by
 intro e;subst e;rw[h] at h';exact d (Option.some.inj h')
theorem ZP {H:Hp}{a b:Addr}{o:HO} (h:H a=some o) (h':H b=none):a≠b:=by
 intro e;subst e;rw[h] at h';cases h'
section
variable (P:Program) (w:World)
noncomputable def JI (H:Hp) (h:Heap) (a:Addr):HO->Prop
 |.lst xs=>xs.length<=sizeLine/\∃(its:List Value) (n:Nat),ZX xs its/\h.get? a=some { cls:=.type "list",data:=.seq its.toArray n }
 |.tup xs=>xs.length<=sizeLine/\∃its:List Value,ZX xs its/\IsTup h a its.toArray
 |.dK kvs=>kvs.length<=sizeLine/\(a==sysModules)=false/\∃vs,KV kvs vs/\h.DictOf (Jx P w) a vs
 |.dT kvs=>kvs.length<=sizeLine/\(a==sysModules)=false/\∃xs:List (List Key×Addr×Value),
   Paired (fun(p:List Key×V) (q:List Key×Addr×Value)=>p.1=q.1/\H q.2.1=some (.tup (p.1.map kV))/\Jo p.2 q.2.2) kvs xs /\
   ∃o es ep,h.get? a=some o/\o.ExactDict/\o.data=.dict es ep/\es.toList=xs.map (entryOfKey (tupleKind (Jx P w)))/\(xs.map (·.1)).Nodup
 |.set S n=>h.SetOf (intKind P w) a S n
 |.ins C dx fs=>H dx=some (.own a)/\fs.length<=1000/\dx≠a/\h.get? a=some (PySem.W.instObj C dx) /\
   ∃mA,h.Ns1 dx mA/\(∀f,Zg9 (fs.lookup f) (mA f))/\PySem.Within mA (fs.map (·.1))
 |.own _=>∃o,h.get? a=some o
 |.xd fs=>∃mA,h.Ns1 a mA/\∀f,Zg9 (fs.lookup f) (mA f)
 |.rng lo hi=>∃t u v,h.get? a=some { cls:=.type "range",data:=.fields #[.int lo t,.int hi u,.int 1 v] }
 |.frz o u=>h.get? a=some o/\JI H h a u
 |.tbl ps=>h.get? a=some { cls:=.none,data:=.fields ps }
 |.met f x=>h.get? a=some (PySem.W.methodObj (.ref f) (.ref x))
 |.ext φ=>φ h/\(∃o,h.get? a=some o)/\∀h1 h2:Heap,φ h1->(∀o,h1.get? a=some o->h2.get? a=some o)->φ h2
def HOk (H:Hp) (h:Heap):Prop:=∀a o,H a=some o->JI P w H h a o
end
section
variable {P:Program}{w:World}{H H':Hp}{h h':Heap}{a:Addr}{o:HO}
theorem JI.lt (x:JI P w H h a o):a<h.objs.size:=by
 cases o with
 |lst xs=>obtain⟨_,_,_,_,e⟩:=x;exact Heap.lt_size e
 |tup xs=>obtain⟨_,_,_,p⟩:=x;exact p.lt
 |dK kvs=>obtain⟨_,_,_,_,o,_,_,e,_⟩:=x;exact Heap.lt_size e
 |dT kvs=>obtain⟨_,_,_,_,o,_,_,e,_⟩:=x;exact Heap.lt_size e
 |set S n=>obtain⟨o,_,_,_,e,_⟩:=x;exact Heap.lt_size e
 |ins C dx fs=>obtain⟨_,_,_,e,_⟩:=x;exact Heap.lt_size e
 |own y=>obtain⟨_,e⟩:=x;exact Heap.lt_size e
 |xd fs=>obtain⟨_,⟨_,_,_,e,_⟩,_⟩:=x;exact Heap.lt_size e
 |rng lo hi=>obtain⟨_,_,_,e⟩:=x;exact Heap.lt_size e
 |frz ob u=>obtain⟨e,_⟩:=x;exact Heap.lt_size e
 |tbl ps=>exact Heap.lt_size (show h.get? a=some _ from x)
 |met f y=>exact Heap.lt_size (show h.get? a=some _ from x)
 |ext φ=>obtain⟨_,⟨_,e⟩,_⟩:=x;exact Heap.lt_size e
theorem Paired.mapP {α β:Type}{F G:α->β->Prop}:∀{l₁:List α}{l₂:List β},Paired F l₁ l₂->(∀a b,F a b->G a b)->Paired G l₁ l₂
 |_,_,.nil,_=>.nil
 |_,_,.cons r t,f=>.cons (f _ _ r) (Paired.mapP t f)
theorem JI.stay (x:JI P w H h a o) (k:∀b u,(b=a\/H b=some (.own a))->h.get? b=some u->h'.get? b=some u)
  (ho:∀b,H b=some (.own a)->H' b=some (.own a)) (ht:∀b xs,H b=some (.tup xs)->H' b=some (.tup xs)):JI P w H' h' a o:=by
 induction o with
 |lst xs=>obtain⟨z,its,n,r,e⟩:=x;exact⟨z,its,n,r,k _ _ (.inl rfl) e⟩
 |tup xs=>obtain⟨z,its,r,ob,e,c⟩:=x;exact⟨z,its,r,ob,k _ _ (.inl rfl) e,c⟩
 |dK kvs=>obtain⟨z,y,vs,r,ob,es,ep,e,c⟩:=x;exact⟨z,y,vs,r,ob,es,ep,k _ _ (.inl rfl) e,c⟩
 |dT kvs =>
  obtain⟨z,y,xs,r,ob,es,ep,e,c⟩:=x
  exact⟨z,y,xs,Paired.mapP r fun p q z=>⟨z.1,ht _ _ z.2.1,z.2.2⟩,ob,es,ep,k _ _ (.inl rfl) e,c⟩
 |set S n=>obtain⟨ob,es,ep,t,e,c⟩:=x;exact⟨ob,es,ep,t,k _ _ (.inl rfl) e,c⟩
 |ins C dx fs =>
  obtain⟨d,z,ne,e,mA,⟨od,es,ep,e2,c⟩,r⟩:=x
  exact⟨ho _ d,z,ne,k _ _ (.inl rfl) e,mA,⟨od,es,ep,k _ _ (.inr d) e2,c⟩,r⟩
 |own y=>obtain⟨ob,e⟩:=x;exact⟨ob,k _ _ (.inl rfl) e⟩
 |xd fs=>obtain⟨mA,⟨od,es,ep,e,c⟩,r⟩:=x;exact⟨mA,⟨od,es,ep,k _ _ (.inl rfl) e,c⟩,r⟩
 |rng lo hi=>obtain⟨t,u,v,e⟩:=x;exact⟨t,u,v,k _ _ (.inl rfl) e⟩
 |frz ob u ih=>obtain⟨e,q⟩:=x;exact⟨k _ _ (.inl rfl) e,ih q⟩
 |tbl ps =>
  have e:h.get? a=some { cls:=.none,data:=.fields ps }:=x
  show h'.get? a=some { cls:=.none,data:=.fields ps }
  exact k a _ (.inl rfl) e
 |met f y =>
  have e:h.get? a=some (PySem.W.methodObj (.ref f) (.ref y)):=x
  show h'.get? a=some (PySem.W.methodObj (.ref f) (.ref y))
  exact k a _ (.inl rfl) e
 |ext φ=>obtain⟨p,⟨o,e⟩,st⟩:=x;exact⟨st _ _ p fun o q=>k _ _ (.inl rfl) q,⟨o,k _ _ (.inl rfl) e⟩,st⟩
theorem HOk.lt (x:HOk P w H h) (e:H a=some o):a<h.objs.size:=(x a o e).lt
theorem HOk.fresh (x:HOk P w H h) (e:h.objs.size<=a):H a=none:=by
 cases q:H a with
 |none=>rfl
 |some u=>exact absurd (Ztc (x.lt q) e) (ZtF _)
theorem HOk.kept (x:HOk P w H h) (k:∀b u,h.get? b=some u->h'.get? b=some u):HOk P w H h':=fun a o e =>
 (x a o e).stay (fun b u _ q=>k b u q) (fun _ q=>q) fun _ _ q=>q
theorem HOk.laid (x:HOk P w H h) (k:∀b u,h.get? b=some u->h'.get? b=some u) (hp:h.objs.size<=a) (new:JI P w (upd H a o) h' a o):HOk P w (upd H a o) h':=fun b u e=>by
 have hn:=x.fresh hp
 by_cases hb:b=a
 ·subst hb;rw[Z2] at e;cases e;exact new
 ·rw[Zr hb] at e
  exact(x b u e).stay (fun c v _ q=>k c v q) (fun c q=>by rw[Zr (ZP q hn)];exact q) fun c xs q=>by rw[Zr (ZP q hn)];exact q
end
def Rd (H:Hp) (a:Addr) (u:HO):Prop:=H a=some u\/∃o,H a=some (.frz o u)
theorem Rd.ok {P:Program}{w:World}{H:Hp}{h:Heap}{a:Addr}{u:HO} (r:Rd H a u) (x:HOk P w H h):JI P w H h a u:=by
 rcases r with r|⟨o,r⟩
 ·exact x a u r
 ·obtain⟨_,q⟩:=x a _ r
  exact q
noncomputable def Mut:Option HO->Prop
 |some (.lst _)=>True
 |some (.dK _)=>True
 |some (.dT _)=>True
 |some (.set _ _)=>True
 |some (.ins _ _ _)=>True
 |some (.ext _)=>True
 |_=>False
section
variable {P:Program}{w:World}{H:Hp}{h h':Heap}{x e:Addr}{o':HO}
theorem HOk.write (ok:HOk P w H h) (mu:Mut (H x)) (he:e=x\/H e=some (.own x)) (k:∀b u,b≠e->h.get? b=some u->h'.get? b=some u) (heo:∃u,h'.get? e=some u)
  (new:JI P w (upd H x o') h' x o'):HOk P w (upd H x o') h':=fun b u q=>by
 have nown:∀c y,H c=some (.own y)->c≠x:=fun c y r z=>by subst z;rw[r] at mu;exact mu
 have ntup:∀c xs,H c=some (.tup xs)->c≠x:=fun c xs r z=>by subst z;rw[r] at mu;exact mu
 by_cases hb:b=x
 ·subst hb;rw[Z2] at q;cases q;exact new
 ·rw[Zr hb] at q
  by_cases hbe:b=e
  ·have q':H b=some (.own x):=by
    rcases he with z|z
    ·exact absurd (hbe.trans z) hb
    ·rw[hbe];exact z
   rw[q] at q';cases q'
   obtain⟨v,hv⟩:=heo
   exact⟨v,by rw[hbe];exact hv⟩
  ·refine(ok b u q).stay (fun c v hc r=>k c v ?_ r) (fun c r=>by rw[Zr (nown c b r)];exact r) fun c xs r=>by rw[Zr (ntup c xs r)];exact r
   rcases hc with rfl|hc
   ·exact hbe
   ·rintro rfl
    rcases he with z|z
    ·exact nown c b hc z
    ·rw[hc] at z;cases z;exact hb rfl
end
structure Un (fs ex:List Addr) (H H':Hp) (h h':Heap):Prop where
 keep:∀b o,h.get? b=some o->H b=none->b ∉ fs->b ∉ ex->h'.get? b=some o
 slot:∀b o,h.get? b=some o->H b=none->b∈fs->b ∉ ex->∃sl,h'.get? b=some { o with slots:=sl }
 free:∀b o,h.get? b=some o->H b=none->b ∉ ex->H' b=none
 there:∀b o,h.get? b=some o->b ∉ ex->∃o',h'.get? b=some o'
 tups:∀b xs,H b=some (.tup xs)->H' b=some (.tup xs)
 frzs:∀b o u,H b=some (.frz o u)->H' b=some (.frz o u)
 tbls:∀b ps,H b=some (.tbl ps)->∃more,H' b=some (.tbl (ps++more))
section
variable {fs ex:List Addr}{H H1:Hp}{h h1 h':Heap}{a x e:Addr}{o:HO}
theorem Un.any (u:Un fs ex H H1 h h1) {b:Addr}{ob:Obj} (q:h.get? b=some ob) (n:H b=none) (hx:b ∉ ex):∃sl,h1.get? b=some { ob with slots:=sl }:=by
 by_cases hb:b∈fs
 ·exact u.slot b ob q n hb hx
 ·exact⟨ob.slots,u.keep b ob q n hb hx⟩
theorem Un.kept (k:∀b u,h.get? b=some u->h'.get? b=some u):Un fs ex H H h h':=
 ⟨fun b ob q _ _ _=>k b ob q,fun b ob q _ _ _=>⟨ob.slots,k b ob q⟩,fun _ _ _ n _=>n,fun b ob q _=>⟨ob,k b ob q⟩,fun _ _ q=>q,fun _ _ _ q=>q,fun _ ps q=>⟨#[],by rw[q];simp⟩⟩
theorem Un.refl:Un fs ex H H h h:=Un.kept fun _ _ q=>q
theorem Un.laid (k:∀b u,h.get? b=some u->h'.get? b=some u) (hp:h.objs.size<=a) (hn:H a=none):Un fs ex H (upd H a o) h h' where
 keep:=fun b u q _ _ _=>k b u q
 slot:=fun b u q _ _ _=>⟨u.slots,k b u q⟩
 free:=fun b u q n _=>by rw[Zr (Zt5 (Ztc (Heap.lt_size q) hp))];exact n
 there:=fun b u q _=>⟨u,k b u q⟩
 tups:=fun b xs q=>by rw[Zr (ZP q hn)];exact q
 frzs:=fun b u xs q=>by rw[Zr (ZP q hn)];exact q
 tbls:=fun b ps q=>⟨#[],by rw[Zr (ZP q hn),q];simp⟩
theorem Un.write (mu:Mut (H x)) (he:e=x\/H e=some (.own x)) (k:∀b u,b≠e->h.get? b=some u->h'.get? b=some u) (heo:∃u,h'.get? e=some u):Un fs ex H (upd H x o) h h':=by
 have hx:∀b,H b=none->b≠x:=fun b n z=>by subst z;rw[n] at mu;exact mu
 have hb:∀b,H b=none->b≠e:=fun b n z=>by
  subst z
  rcases he with r|r
  ·exact hx b n r
  ·rw[n] at r;cases r
 have hm:∀b u,H b=some u->¬Mut (some u)->b≠x:=fun b u q nm z=>by subst z;rw[q] at mu;exact nm mu
 refine⟨fun b u q n _ _=>k b u (hb b n) q,fun b u q n _ _=>⟨u.slots,k b u (hb b n) q⟩,fun b u q n _=>by rw[Zr (hx b n)];exact n,fun b u q _=>?_,
  fun b xs q=>by rw[Zr (hm b _ q fun z=>z)];exact q,fun b u xs q=>by rw[Zr (hm b _ q fun z=>z)];exact q,fun b ps q=>⟨#[],by rw[Zr (hm b _ q fun z=>z),q];simp⟩⟩
 by_cases hbe:b=e
 ·subst hbe;exact heo
 ·exact⟨u,k b u hbe q⟩
end
noncomputable def trk (h:Heap) (H:Hp):List Addr:=(List.range h.objs.size).filter fun a=>(H a).isSome
noncomputable def Zhx (h:Heap) (H:Hp):Heap:=PySem.W.hideAll h (trk h H)
theorem ZfM (h:Heap) (H:Hp):(Zhx h H).objs.size=h.objs.size:=PySem.W.hideAll_size _ _
theorem Zhw {h:Heap}{H:Hp}{b:Addr}{o:Obj} (e:h.get? b=some o) (n:H b=none):(Zhx h H).get? b=some o:=
 PySem.W.hideAll_get _ e fun hm=>by
  have q:(H b).isSome=true:=(Zug.mp hm).2
  rw[n] at q;simp at q
theorem ZiZ {h:Heap}{H:Hp}{b:Addr}{o:Obj} (e:(Zhx h H).get? b=some o):h.get? b=some o/\H b=none:=by
 have e':h.get? b=some o:=PySem.W.of_hideAll (trk h H) e
 refine⟨e', ?_⟩
 cases q:H b with
 |none=>rfl
 |some x =>
  have hm:b∈trk h H:=Zug.mpr ⟨Ztv.mpr (Heap.lt_size e'),by simp[q]⟩
  have z:(Zhx h H).get? b=none:=PySem.W.hideAll_none (trk h H) hm
  rw[z] at e;cases e
noncomputable def ZjM (g h:Heap) (L:Addr):List (Addr×Obj):=(List.range h.objs.size).filterMap fun a=>if a=L\/(g.get? a).isSome=true then none else (h.get? a).map fun o=>(a,o)
noncomputable def Zib (g h:Heap) (L d:Addr):List (Addr×Obj):=(ZjM g h L).filter fun p=>decide (p.1≠d)
structure Mod (K:PySem.W.Frag) (mg:Str->Option Value) (base:Heap):Prop where
 kin:K.In base
 glob:base.Ns mainGlobals mg
 blt:∃mb,base.Ns builtinsNs mb/\∀x:Str,x ≠ "__name__"->mb x=bootBuiltins x
 nolimit:base.NoLimit
structure Cx where
 prog:Program
 w:World
 K:PySem.W.Frag
 mg:Str->Option Value
 base:Heap
 A:Around
 N:List Str
 s₀:Shared
 H₀:Hp
 env:Env
 outer:List Env
 stack:List Env
 ex:List Addr
 fn:Str->Bool
 calm:Bool
 pn:List (Addr×Obj)
 xe:Value->Shared->Prop
noncomputable def frs (l:List Env):List Addr:=l.filterMap (·.frame)
noncomputable abbrev Cx.fs (X:Cx):List Addr:=frs X.outer
def Vis (sc:Scope) (x:Str):Prop:=sc.names.lookup x=some .local\/sc.names.lookup x=some .cell\/sc.names.lookup x=some .free
def Loc (sc:Scope) (x:Str):Prop:=sc.names.lookup x=some .local\/sc.names.lookup x=some .cell
def Znv (env:Env) (h:Heap) (m:Str->Option Value) (x:Str) (u:Value):Prop:=
 (env.kindOf x=some .local/\m x=some u)\/((env.kindOf x=some .cell\/env.kindOf x=some .free)/\∃c,env.cells.lookup x=some c/\h.IsCell c (some u))
structure Cx.Ok (X:Cx):Prop where
 mod:Mod X.K X.mg X.base
 kind:X.env.scope.kind=.function
 glob:X.env.globals=mainGlobals
 blt:X.env.builtins=builtinsNs
 above:X.s₀.heap.objs.size<=X.env.locals
 inj:∀x y c,X.env.cells.lookup x=some c->X.env.cells.lookup y=some c->x=y
 has:∀x,(X.env.kindOf x=some .cell\/X.env.kindOf x=some .free)->∃c,X.env.cells.lookup x=some c
 cab:∀x c,X.fn x=true->X.env.cells.lookup x=some c->X.s₀.heap.objs.size<=c
 hd:X.calm=true->X.A.handled=none
 frames:X.A.frames=some X.stack
 stk:X.stack=X.outer\/(X.stack=X.env::X.outer/\X.env.frame=some X.env.locals)
 exf:∀b∈X.ex,b≠X.env.locals/\∀x c,X.env.cells.lookup x=some c->c≠b
 bs:∀b o,X.base.get? b=some o->X.s₀.heap.get? b=some o/\X.H₀ b=none
 bsz:X.base.objs.size<=X.s₀.heap.objs.size
 noex:∀b o,X.base.get? b=some o->b ∉ X.ex
 exfs:∀b∈X.ex,b ∉ X.fs
 funs:X.s₀.heap.FunFrames X.base X.outer
 frf:∀b∈X.fs,X.H₀ b=none
structure Inv (X:Cx) (pins:List (Addr×Obj)) (σ:List (Option V)) (H:Hp) (s:Shared):Prop where
 ok:X.Ok
 os:s.os=X.s₀.os
 bare:AllBare s.gens
 base:Un X.fs X.ex X.H₀ H X.s₀.heap s.heap
 loc:∃m,s.heap.Ns X.env.locals m/\∀(i:Nat) (x:Str) (v:V),X.N[i]?=some x->σ[i]?=some (some v)->Vis X.env.scope x->∃u,Jo v u/\Znv X.env s.heap m x u
 cell:∀x c,X.env.cells.lookup x=some c->∃v,s.heap.IsCell c v
 free:H X.env.locals=none
 freeC:∀x c,X.env.cells.lookup x=some c->H c=none
 pin:∀p∈X.pn++pins,s.heap.get? p.1=some p.2/\H p.1=none/\p.1≠X.env.locals/\p.1 ∉ X.fs/\∀v,p.2.data≠.cell v
 hok:HOk X.prog X.w H s.heap
 len:σ.length=X.N.length
section
variable {X:Cx}{pins:List (Addr×Obj)}{σ:List (Option V)}{H H':Hp}{s:Shared}{h':Heap}
theorem Cx.Ok.nofr (ok:X.Ok) {b:Addr}{o:Obj} (e:X.base.get? b=some o):b ∉ X.fs:=fun hb=>by
 have:=(ok.funs.mem hb).1
 rw[e] at this;cases this
theorem Inv.bs (I:Inv X pins σ H s):∀b o,X.base.get? b=some o->s.heap.get? b=some o/\H b=none:=fun b o e =>
 ⟨I.base.keep b o (I.ok.bs b o e).1 (I.ok.bs b o e).2 (I.ok.nofr e) (I.ok.noex b o e),I.base.free b o (I.ok.bs b o e).1 (I.ok.bs b o e).2 (I.ok.noex b o e)⟩
theorem Inv.bk (I:Inv X pins σ H s):∀b o,X.base.get? b=some o->s.heap.get? b=some o:=fun b o e=>(I.bs b o e).1
theorem Inv.mod (I:Inv X pins σ H s):Mod X.K X.mg X.base:=I.ok.mod
theorem Inv.kIn (I:Inv X pins σ H s):X.K.In s.heap:=I.ok.mod.kin.keeps I.bk
theorem Inv.lt (I:Inv X pins σ H s):X.env.locals<s.heap.objs.size:=let ⟨_,hn,_⟩:=I.loc;hn.lt
theorem Inv.sz (I:Inv X pins σ H s):X.s₀.heap.objs.size<=s.heap.objs.size:=Ztu I.ok.above (Nat.le_of_lt I.lt)
theorem Inv.nofs (I:Inv X pins σ H s) {a:Addr} (h:s.heap.objs.size<=a):a ∉ X.fs:=fun hb=>by
 obtain⟨_,o,ho,_⟩:=I.ok.funs.mem hb
 exact absurd (Ztc (Heap.lt_size ho) (Ztu I.sz h)) (ZtF _)
theorem Inv.cne (I:Inv X pins σ H s):∀x c,X.env.cells.lookup x=some c->c≠X.env.locals:=fun x c e z=>by
 obtain⟨v,o,ho,hd⟩:=I.cell x c e
 obtain⟨m,⟨o',es,ep,ho',hd',_⟩,_⟩:=I.loc
 rw[z,ho'] at ho;cases ho;rw[hd'] at hd;cases hd
theorem Inv.funs (I:Inv X pins σ H s):s.heap.FunFrames X.base X.outer:=by
 have all:∀(l:List Env),(∀b∈frs l,b∈X.fs)->X.s₀.heap.FunFrames X.base l->s.heap.FunFrames X.base l:=by
  intro l
  induction l with
  |nil=>intro _ _;trivial
  |cons env r ih =>
   intro hs hl
   obtain⟨hk,⟨L,o,hf,hn,ho,hd⟩,hr⟩:=hl
   have hL:L∈X.fs:=hs L (by unfold frs;rw[ZuD,hf];exact ZtG)
   obtain⟨sl,e⟩:=I.base.slot L o ho (I.ok.frf L hL) hL fun z=>I.ok.exfs L z hL
   exact⟨hk,⟨L,_,hf,hn,e,hd⟩,ih (fun b hb=>hs b (by unfold frs;rw[ZuD,hf];exact Ztx _ hb)) hr⟩
 exact all X.outer (fun _ hb=>hb) I.ok.funs
theorem Inv.stack (I:Inv X pins σ H s):s.heap.FunFrames X.base X.stack:=by
 rcases I.ok.stk with e|⟨e,hf⟩
 ·rw[e];exact I.funs
 ·rw[e]
  obtain⟨m,hn,_⟩:=I.loc
  refine .cons (by rw[I.ok.kind];decide) hf hn ?_ I.funs
  exact Heap.get?_none_of_le (Ztu I.ok.bsz I.ok.above)
theorem Inv.stkSub (I:Inv X pins σ H s):∀b∈frs X.stack,b∈X.env.locals::X.fs:=fun b hb=>by
 rcases I.ok.stk with e|⟨e,hf⟩
 ·rw[e] at hb;exact Ztx _ hb
 ·rw[e] at hb
  unfold frs at hb
  rw[ZuD,hf] at hb
  exact hb
theorem Inv.stkFree (I:Inv X pins σ H s):∀b∈frs X.stack,H b=none:=fun b hb=>by
 rcases ZsZ.mp (I.stkSub b hb) with e|hb
 ·rw[e];exact I.free
 ·obtain⟨_,o,ho,_⟩:=I.ok.funs.mem hb
  exact I.base.free b o ho (I.ok.frf b hb) fun z=>I.ok.exfs b z hb
theorem Inv.step {g':Array GenState}{t':Nat}{d':Drawn}{ch:List Addr} (I:Inv X pins σ H s)
  (hch:∀b∈ch,(b∈X.ex\/X.s₀.heap.objs.size<=b)/\b≠X.env.locals/\(∀x c,X.env.cells.lookup x=some c->c≠b)/\∀p∈X.pn++pins,p.1≠b)
  (keep:∀b o,b≠X.env.locals->b ∉ X.fs->b ∉ ch->s.heap.get? b=some o->H b=none->h'.get? b=some o)
  (slot:∀b o,b≠X.env.locals->b∈X.fs->b ∉ ch->s.heap.get? b=some o->H b=none->∃sl,h'.get? b=some { o with slots:=sl }) (free:∀b o,b ∉ ch->s.heap.get? b=some o->H b=none->H' b=none)
  (there:∀b o,b ∉ ch->s.heap.get? b=some o->∃o',h'.get? b=some o')
  (tups:∀b xs,H b=some (.tup xs)->H' b=some (.tup xs)) (frzs:∀b o u,H b=some (.frz o u)->H' b=some (.frz o u)) (tbls:∀b ps,H b=some (.tbl ps)->∃more,H' b=some (.tbl (ps++more)))
  (ns:∀m,s.heap.Ns X.env.locals m->h'.Ns X.env.locals m) (hok:HOk X.prog X.w H' h') (hg:AllBare g') :
  Inv X pins σ H' { s with heap:=h',gens:=g',drawn:=d',toks:=t' }:=by
 have neL:∀b o,X.s₀.heap.get? b=some o->b≠X.env.locals:=fun b o e=>Zt5 (Ztc (Heap.lt_size e) I.ok.above)
 have neC:∀b o,X.s₀.heap.get? b=some o->b ∉ X.ex->b ∉ ch:=fun b o e hx hb=>by
  rcases (hch b hb).1 with z|z
  ·exact hx z
  ·exact absurd (Ztc (Heap.lt_size e) z) (ZtF _)
 have cellK:∀x c,X.env.cells.lookup x=some c->∀v,s.heap.IsCell c v->h'.IsCell c v:=fun x c e v ⟨o,ho,hd⟩=>by
  have nch:c ∉ ch:=fun z=>(hch c z).2.2.1 x c e rfl
  by_cases hc:c∈X.fs
  ·obtain⟨sl,q⟩:=slot c o (I.cne x c e) hc nch ho (I.freeC x c e)
   exact⟨_,q,hd⟩
  ·exact⟨o,keep c o (I.cne x c e) hc nch ho (I.freeC x c e),hd⟩
 refine⟨I.ok,I.os,hg,⟨fun b o e n hb hx=>?_,fun b o e n hb hx=>?_,fun b o e n hx=>?_,fun b o e hx=>?_,fun b xs e=>tups b xs (I.base.tups b xs e),fun b o xs e=>frzs b o xs (I.base.frzs b o xs e),fun b ps e=>?_⟩, ?_,fun x c e=>?_, ?_,fun x c e=>?_,fun p hp=>?_,hok,I.len⟩
 ·exact keep b o (neL b o e) hb (neC b o e hx) (I.base.keep b o e n hb hx) (I.base.free b o e n hx)
 ·obtain⟨sl,e1⟩:=I.base.slot b o e n hb hx
  obtain⟨sl',e2⟩:=slot b _ (neL b o e) hb (neC b o e hx) e1 (I.base.free b o e n hx)
  exact⟨sl',e2⟩
 ·obtain⟨o',e1⟩:=I.base.there b o e hx
  exact free b o' (neC b o e hx) e1 (I.base.free b o e n hx)
 ·obtain⟨o',e1⟩:=I.base.there b o e hx
  exact there b o' (neC b o e hx) e1
 ·obtain⟨m1,e1⟩:=I.base.tbls b ps e
  obtain⟨m2,e2⟩:=tbls b _ e1
  exact⟨m1++m2,by rw[e2,Array.append_assoc]⟩
 ·obtain⟨m,hn,hl⟩:=I.loc
  refine⟨m,ns m hn,fun i x v e1 e2 e3=>?_⟩
  obtain⟨u,r,l⟩:=hl i x v e1 e2 e3
  refine⟨u,r, ?_⟩
  rcases l with l|⟨k,c,e,z⟩
  ·exact .inl l
  ·exact .inr ⟨k,c,e,cellK x c e _ z⟩
 ·obtain⟨v,z⟩:=I.cell x c e
  exact⟨v,cellK x c e v z⟩
 ·obtain⟨m,⟨o,_,_,ho,_⟩,_⟩:=I.loc
  exact free _ o (fun z=>(hch _ z).2.1 rfl) ho I.free
 ·obtain⟨v,o,ho,hd⟩:=I.cell x c e
  exact free c o (fun z=>(hch c z).2.2.1 x c e rfl) ho (I.freeC x c e)
 ·obtain⟨e,n,ne,nf,d⟩:=I.pin p hp
  have nch:p.1 ∉ ch:=fun z=>(hch p.1 z).2.2.2 p hp rfl
  exact⟨keep p.1 p.2 ne nf nch e n,free p.1 p.2 nch e n,ne,nf,d⟩
theorem Inv.un {t':Nat} (I:Inv X pins σ H s) (u:Un X.fs [] H H' s.heap h') (hok:HOk X.prog X.w H' h'):Inv X pins σ H' { s with heap:=h',toks:=t' }:=by
 obtain⟨m,⟨o,es,ep,ho,r⟩,_⟩:=id I.loc
 obtain⟨sl,hL⟩:=u.any ho I.free (by simp)
 exact I.step (g':=s.gens) (d':=s.drawn) (ch:=[]) (fun _ z=>nomatch z) (fun b o _ hb _ e n=>u.keep b o e n hb (by simp)) (fun b o _ hb _ e n=>u.slot b o e n hb (by simp)) (fun b o _ e n=>u.free b o e n (by simp)) (fun b o _ e=>u.there b o e (by simp)) u.tups u.frzs u.tbls (fun m' hm=>by
  obtain⟨o',es',ep',ho',r'⟩:=hm
  rw[ho] at ho';cases ho'
  exact⟨_,es',ep',hL,r'⟩) hok I.bare
theorem Inv.call {g':Array GenState}{t':Nat}{d':Drawn}{ch:List Addr} (I:Inv X pins σ H s) (u:Un (frs X.stack) ch H H' s.heap h') (hok:HOk X.prog X.w H' h') (hg:AllBare g')
  (hch:∀b∈ch,(b∈X.ex\/X.s₀.heap.objs.size<=b)/\b≠X.env.locals/\(∀x c,X.env.cells.lookup x=some c->c≠b)/\∀p∈X.pn++pins,p.1≠b) :
  Inv X pins σ H' { s with heap:=h',gens:=g',drawn:=d',toks:=t' }:=by
 obtain⟨m,⟨o,es,ep,ho,r⟩,_⟩:=id I.loc
 obtain⟨sl,hL⟩:=u.any ho I.free fun z=>(hch _ z).2.1 rfl
 exact I.step (ch:=ch) hch (fun b o hL hb hc e n=>u.keep b o e n (fun z=>(ZsZ.mp (I.stkSub b z)).elim hL hb) hc) (fun b o _ _ hc e n=>u.any e n hc) (fun b o hc e n=>u.free b o e n hc) (fun b o hc e=>u.there b o e hc) u.tups u.frzs u.tbls (fun m' hm=>by
  obtain⟨o',es',ep',ho',r'⟩:=hm
  rw[ho] at ho';cases ho'
  exact⟨_,es',ep',hL,r'⟩) hok hg
theorem Inv.turned {t':Nat}{it:Addr} (I:Inv X pins σ H s) (k:∀b o,b≠it->s.heap.get? b=some o->h'.get? b=some o) (hn:H it=none) (hL:it≠X.env.locals)
  (h1:it∈X.ex\/X.s₀.heap.objs.size<=it) (h2:∀x c,X.env.cells.lookup x=some c->c≠it) (h3:∀p∈X.pn++pins,p.1≠it):Inv X pins σ H { s with heap:=h',toks:=t' }:=by
 have nit:∀b u,H b=some u->b≠it:=fun b u e z=>by rw[z,hn] at e;cases e
 refine I.step (g':=s.gens) (d':=s.drawn) (ch:=[it]) (fun b hb=>?_) (fun b o _ _ hc e _=>k b o (fun z=>hc (by simp[z])) e) (fun b o _ _ hc e _=>⟨o.slots,k b o (fun z=>hc (by simp[z])) e⟩) (fun _ _ _ _ n=>n)
  (fun b o hc e=>⟨o,k b o (fun z=>hc (by simp[z])) e⟩) (fun _ _ e=>e) (fun _ _ _ e=>e) (fun b ps e=>⟨#[],by rw[e];simp⟩) (fun m hm=>?_) (fun b u e=>?_) I.bare
 ·have e:b=it:=by simpa using hb
  subst e
  exact⟨h1,hL,h2,h3⟩
 ·obtain⟨o,es,ep,ho,r⟩:=hm
  exact⟨o,es,ep,k _ o (Ne.symm hL) ho,r⟩
 ·refine(I.hok b u e).stay (fun c v hc q=>k c v ?_ q) (fun _ q=>q) fun _ _ q=>q
  rcases hc with z|z
  ·rw[z];exact nit b u e
  ·exact nit c _ z
theorem Inv.tok (I:Inv X pins σ H s) (t:Nat):Inv X pins σ H { s with toks:=t }:=I.un (h':=s.heap) (t':=t) Un.refl I.hok
theorem Inv.kept {t':Nat} (I:Inv X pins σ H s) (k:∀b u,s.heap.get? b=some u->h'.get? b=some u):Inv X pins σ H { s with heap:=h',toks:=t' }:=I.un (Un.kept k) (I.hok.kept k)
theorem Inv.laid {a:Addr}{o:HO}{t':Nat} (I:Inv X pins σ H s) (k:∀b u,s.heap.get? b=some u->h'.get? b=some u) (hp:s.heap.objs.size<=a) (new:JI X.prog X.w (upd H a o) h' a o) :
  Inv X pins σ (upd H a o) { s with heap:=h',toks:=t' }:=I.un (Un.laid k hp (I.hok.fresh hp)) (I.hok.laid k hp new)
theorem Inv.write {x e:Addr}{o:HO}{t':Nat} (I:Inv X pins σ H s) (mu:Mut (H x)) (he:e=x\/H e=some (.own x)) (k:∀b u,b≠e->s.heap.get? b=some u->h'.get? b=some u) (heo:∃u,h'.get? e=some u)
  (new:JI X.prog X.w (upd H x o) h' x o):Inv X pins σ (upd H x o) { s with heap:=h',toks:=t' }:=I.un (Un.write mu he k heo) (I.hok.write mu he k heo new)
theorem Inv.pins_of {pins':List (Addr×Obj)} (I:Inv X pins σ H s) (h:∀p∈pins',s.heap.get? p.1=some p.2/\H p.1=none/\p.1≠X.env.locals/\p.1 ∉ X.fs/\∀v,p.2.data≠.cell v):Inv X pins' σ H s:=
 ⟨I.ok,I.os,I.bare,I.base,I.loc,I.cell,I.free,I.freeC,fun p hp=>(ZsS.mp hp).elim (fun z=>I.pin p (ZsW _ z)) (h p),I.hok,I.len⟩
theorem Zd6 {N:List Str} (hN:N.Nodup) {i j:Nat}{x:Str} (a:N[i]?=some x) (b:N[j]?=some x):i=j:=by
 obtain⟨h1,e1⟩:=ZsR.mp a
 obtain⟨h2,e2⟩:=ZsR.mp b
 exact(List.getElem_inj hN).mp (e1.trans e2.symm)
theorem Zbn {M:Model}{A:Around}{E:Value->Shared->Prop}{i:Nat}{x:Str}{v:V}{u:Value}{Q:Unit->Shared->Prop} (I:Inv X pins σ H s) (hN:X.N.Nodup) (hi:X.N[i]?=some x) (hx:Loc X.env.scope x) (r:Jo v u)
  (h:∀s',Inv X pins (σ.set i (some v)) H s'->(∃a,Heap.SameBut a s.heap s'.heap/\(a=X.env.locals\/X.env.cells.lookup x=some a))->Q () s') (hf:X.fn x=true\/X.env.scope.names.lookup x=some .local):wpAny M A (storeName X.env x u) Q E s:=by
 obtain⟨m,hn,hl⟩:=id I.loc
 have hcls:(X.env.scope.kind==.class || (X.env.scope.kind==.module&&X.env.locals != X.env.globals))=false:=by rw[I.ok.kind];rfl
 have hiσ:i<σ.length:=by rw[I.len];exact(ZsR.mp hi).1
 have cne:=I.cne
 have tracked:∀{a:Addr}{h':Heap},(∃o,s.heap.get? a=some o/\H a=none)->Heap.SameBut a s.heap h'->HOk X.prog X.w H h':=fun {a h'} ha hs b ob e=>by
  obtain⟨_,_,hfree⟩:=ha
  refine(I.hok b ob e).stay (fun c w' hc q=>(hs.2 c ?_).trans q) (fun _ q=>q) fun _ _ q=>q
  rintro rfl
  rcases hc with rfl|hc
  ·rw[hfree] at e;cases e
  ·rw[hfree] at hc;cases hc
 rcases hx with hk|hk
 ·refine wpAny_storeName_local hk hn (fun h' hn' hs=>?_) hcls
  obtain⟨oL,_,_,hoL,_⟩:=id hn
  refine h _ ⟨I.ok,I.os,I.bare,⟨fun b o e n hb hx=>?_,fun b o e n hb hx=>?_,I.base.free,fun b o e hx=>?_,I.base.tups,I.base.frzs,I.base.tbls⟩,⟨_,hn',fun j y v' e1 e2 e3=>?_⟩,fun y c e=>?_,I.free,I.freeC,fun p hp=>?_,tracked ⟨oL,hoL,I.free⟩ hs,by simpa using I.len⟩ ⟨_,hs,.inl rfl⟩
  ·exact(hs.2 b (Zt5 (Ztc (Heap.lt_size e) I.ok.above))).trans (I.base.keep b o e n hb hx)
  ·obtain⟨sl,e1⟩:=I.base.slot b o e n hb hx
   exact⟨sl,(hs.2 b (Zt5 (Ztc (Heap.lt_size e) I.ok.above))).trans e1⟩
  ·obtain⟨o',e1⟩:=I.base.there b o e hx
   exact⟨o',(hs.2 b (Zt5 (Ztc (Heap.lt_size e) I.ok.above))).trans e1⟩
  ·by_cases hj:j=i
   ·subst hj
    rw[hi] at e1;cases e1
    rw[Zto hiσ] at e2
    cases e2
    exact⟨u,r,.inl ⟨hk,by simp⟩⟩
   ·rw[Ztj (Ne.symm hj)] at e2
    obtain⟨u',r',q⟩:=hl j y v' e1 e2 e3
    refine⟨u',r', ?_⟩
    rcases q with ⟨k,e⟩|⟨k,c,e,z⟩
    ·refine .inl ⟨k, ?_⟩
     have:y≠x:=fun e=>hj (Zd6 hN e1 (e▸hi))
     simp[this,e]
    ·exact .inr ⟨k,c,e,z.sameBut hs (cne y c e)⟩
  ·obtain⟨w',z⟩:=I.cell y c e
   exact⟨w',z.sameBut hs (cne y c e)⟩
  ·obtain⟨e,n,ne,nf,d⟩:=I.pin p hp
   exact⟨(hs.2 p.1 ne).trans e,n,ne,nf,d⟩
 ·have hfn:X.fn x=true:=by
   rcases hf with z|z
   ·exact z
   ·rw[z] at hk;cases hk
  obtain⟨c,hc⟩:=I.ok.has x (.inl hk)
  obtain⟨w',z⟩:=I.cell x c hc
  refine wpAny_storeName_cell I.ok.kind hk hc z (fun h' hc' hs=>?_)
  obtain⟨oc,hoc,hocd⟩:=id z
  refine h { s with heap:=h' } ⟨I.ok,I.os,I.bare,⟨fun b o e n hb hx=>?_,fun b o e n hb hx=>?_,I.base.free,fun b o e hx=>?_,I.base.tups,I.base.frzs,I.base.tbls⟩,⟨m,hn.sameBut hs (Ne.symm (cne x c hc)),fun j y v' e1 e2 e3=>?_⟩,fun y c' e=>?_,I.free,I.freeC,fun p hp=>?_,tracked ⟨oc,hoc,I.freeC x c hc⟩ hs,by simpa using I.len⟩ ⟨c,hs,.inr hc⟩
  ·exact(hs.2 b (Zt5 (Ztc (Heap.lt_size e) (I.ok.cab x c hfn hc)))).trans (I.base.keep b o e n hb hx)
  ·obtain⟨sl,e1⟩:=I.base.slot b o e n hb hx
   exact⟨sl,(hs.2 b (Zt5 (Ztc (Heap.lt_size e) (I.ok.cab x c hfn hc)))).trans e1⟩
  ·obtain⟨o',e1⟩:=I.base.there b o e hx
   exact⟨o',(hs.2 b (Zt5 (Ztc (Heap.lt_size e) (I.ok.cab x c hfn hc)))).trans e1⟩
  ·by_cases hj:j=i
   ·subst hj
    rw[hi] at e1;cases e1
    rw[Zto hiσ] at e2
    cases e2
    exact⟨u,r,.inr ⟨.inl hk,c,hc,hc'⟩⟩
   ·rw[Ztj (Ne.symm hj)] at e2
    obtain⟨u',r',q⟩:=hl j y v' e1 e2 e3
    refine⟨u',r', ?_⟩
    rcases q with q|⟨k,c',e,z'⟩
    ·exact .inl q
    ·refine .inr ⟨k,c',e,z'.sameBut hs ?_⟩
     rintro rfl
     exact hj (Zd6 hN e1 (I.ok.inj _ _ _ e hc▸hi))
  ·by_cases hcc:c'=c
   ·subst hcc;exact⟨_,hc'⟩
   ·obtain⟨w2,z2⟩:=I.cell y c' e
    exact⟨w2,z2.sameBut hs hcc⟩
  ·obtain⟨e,n,ne,nf,d⟩:=I.pin p hp
   refine⟨(hs.2 p.1 ?_).trans e,n,ne,nf,d⟩
   intro q
   rw[q,hoc] at e
   have q':oc=p.2:=Option.some.inj e
   exact d w' (by rw[<- q'];exact hocd)
theorem Za7 {M:Model}{A:Around}{E:Value->Shared->Prop}{i:Nat}{x:Str}{v:V}{u:Value}{Q:Unit->Shared->Prop} (I:Inv X pins σ H s) (hN:X.N.Nodup) (hi:X.N[i]?=some x) (hx:Loc X.env.scope x) (r:Jo v u)
  (h:∀s',Inv X pins (σ.set i (some v)) H s'->Q () s') (hf:X.fn x=true\/X.env.scope.names.lookup x=some .local):wpAny M A (storeName X.env x u) Q E s:=
 Zbn I hN hi hx r (fun s' I' _=>h s' I') hf
theorem Inv.call' {s':Shared}{ch:List Addr} (I:Inv X pins σ H s) (ho:s'.os=s.os) (u:Un (frs X.stack) ch H H' s.heap s'.heap) (hok:HOk X.prog X.w H' s'.heap) (hg:AllBare s'.gens)
  (hch:∀b∈ch,(b∈X.ex\/X.s₀.heap.objs.size<=b)/\b≠X.env.locals/\(∀x c,X.env.cells.lookup x=some c->c≠b)/\∀p∈X.pn++pins,p.1≠b):Inv X pins σ H' s':=by
 obtain⟨h',g',d',t',o'⟩:=s'
 have e:o'=s.os:=ho
 subst e
 exact I.call (g':=g') (t':=t') (d':=d') u hok hg hch
end
noncomputable abbrev XK:=Value->Option Addr->Hp->Prop
noncomputable abbrev St:=List (Option V)
noncomputable abbrev VK:=V->Hp->Prop
noncomputable abbrev TE:=St->Hp->VK->Prop
noncomputable abbrev TT:=St->Hp->(Bool->Hp->Prop)->Prop
noncomputable abbrev TA:=St->Hp->(List V->Hp->Prop)->Prop
structure ZgA where
 nx:St->Hp->Prop
 rt:VK
 bk:St->Hp->Prop:=fun _ _=>False
 ct:St->Hp->Prop:=fun _ _=>False
noncomputable abbrev TS:=ZgA->St->Hp->Prop
def EP (X:Cx) (pins:List (Addr×Obj)) (σ:St) (Q:VK) (u:Value) (s':Shared):Prop:=∃v H',Inv X pins σ H' s'/\Jo v u/\Q v H'
def TP (X:Cx) (pins:List (Addr×Obj)) (σ:St) (Q:Bool->Hp->Prop) (b:Bool) (s':Shared):Prop:=∃H',Inv X pins σ H' s'/\Q b H'
def AP (X:Cx) (pins:List (Addr×Obj)) (σ:St) (Q:List V->Hp->Prop) (us:List Value) (s':Shared):Prop:=∃vs H',Inv X pins σ H' s'/\ZX vs us/\Q vs H'
def SP (X:Cx) (pins:List (Addr×Obj)) (D:ZgA) (f:Flow) (s':Shared):Prop:=
 match f with
 |.next=>∃σ' H',Inv X pins σ' H' s'/\D.nx σ' H'
 |.brk=>∃σ' H',Inv X pins σ' H' s'/\D.bk σ' H'
 |.cont=>∃σ' H',Inv X pins σ' H' s'/\D.ct σ' H'
 |.ret u=>∃v σ' H',Inv X pins σ' H' s'/\Jo v u/\D.rt v H'
def PE (X:Cx) (e:Expr) (t:TE):Prop:=
 ∀(pins:List (Addr×Obj)) (s:Shared) (σ:St) (H:Hp) (Q:VK),Inv X pins σ H s->t σ H Q->wpAny (model X.prog X.w) X.A (eval e X.env) (EP X pins σ Q) X.xe s
def PT (X:Cx) (e:Expr) (t:TT):Prop:=
 ∀(pins:List (Addr×Obj)) (s:Shared) (σ:St) (H:Hp) (Q:Bool->Hp->Prop),Inv X pins σ H s->t σ H Q->wpAny (model X.prog X.w) X.A (isTrue e X.env (eval e X.env)) (TP X pins σ Q) X.xe s
def PW (X:Cx) (e:Expr) (t:TT):Prop:=
 ∀(whole:Sem Value) (pins:List (Addr×Obj)) (s:Shared) (σ:St) (H:Hp) (Q:Bool->Hp->Prop),Inv X pins σ H s->t σ H Q->wpAny (model X.prog X.w) X.A (isTrue e X.env whole) (TP X pins σ Q) X.xe s
theorem PW.pt {X:Cx}{e:Expr}{t:TT} (h:PW X e t):PT X e t:=h _
def PA (X:Cx) (es:List Expr) (t:TA):Prop:=
 ∀(pos:Pos) (pins:List (Addr×Obj)) (s:Shared) (σ:St) (H:Hp) (Q:List V->Hp->Prop),Inv X pins σ H s->t σ H Q->wpAny (model X.prog X.w) X.A (spliced (backTo pos (starEach es X.env))) (AP X pins σ Q) X.xe s
def PS (X:Cx) (st:Stmt) (t:TS):Prop:=
 ∀(pins:List (Addr×Obj)) (s:Shared) (σ:St) (H:Hp) (D:ZgA),Inv X pins σ H s->t D σ H->wpAny (model X.prog X.w) X.A (exec st X.env) (SP X pins D) X.xe s
def PSs (X:Cx) (st:List Stmt) (t:TS):Prop:=
 ∀(pins:List (Addr×Obj)) (s:Shared) (σ:St) (H:Hp) (D:ZgA),Inv X pins σ H s->t D σ H->wpAny (model X.prog X.w) X.A (execs st X.env) (SP X pins D) X.xe s
theorem thn {α:Type}{t:Sem α}{Q Q':α->Shared->Prop}{M:Model}{A:Around}{E:Value->Shared->Prop}{s:Shared} (h:wpAny M A t Q E s) (hQ:∀a s,Q a s->Q' a s):wpAny M A t Q' E s:=wpAny_mono h hQ fun _ _ x=>x
section
variable {X:Cx}
noncomputable def QW (i:Nat):TE:=fun σ H Q=>∃v,σ[i]?=some (some v)/\Q v H
noncomputable def tC (v:V):TE:=fun _ H Q=>Q v H
theorem Zk5 {i:Nat}{x:Str}{pos:Pos} (hN:X.N[i]?=some x) (hv:Vis X.env.scope x) (hd:(x==("__debug__":Str))=false:=by decide) (hcd:(x==("__classdict__":Str))=false:=by decide):PE X (.Name x pos) (QW i):=by
 intro pins s σ H Q I h
 obtain⟨v,e,h⟩:=h
 obtain⟨m,hn,hl⟩:=I.loc
 obtain⟨u,r,l⟩:=hl i x v hN e hv
 have fin:EP X pins σ Q u s:=⟨v,H,I,r,h⟩
 rcases l with ⟨hk,hm⟩|⟨hk,c,hc,hcell⟩
 ·exact wpAny_Name (wpAny_loadName_local I.ok.kind hk hn hm fin) hd
 ·rcases hk with hk|hk
  ·exact wpAny_Name (wpAny_loadName_cell I.ok.kind hk hc hcell fin) hd
  ·exact wpAny_Name (wpAny_loadName_free I.ok.kind hk hc hcell fin hcd) hd
theorem Zl {i j pos}:PE X (.Constant (.int i) j pos) (tC (.int i)):=fun _ _ _ H _ I h=>wpAny_Constant_int ⟨.int i,H,I.tok _,⟨_,rfl⟩,h⟩
theorem Vs {b j pos}:PE X (.Constant (.bool b) j pos) (tC (.bl b)):=fun _ _ _ H _ I h=>Constant_bool ⟨.bl b,H,I,rfl,h⟩
theorem Zbu {j pos}:PE X (.Constant .none j pos) (tC .non):=fun _ _ _ H _ I h=>Constant_none ⟨.non,H,I,rfl,h⟩
theorem Zaj {x j pos}:PE X (.Constant (.str x) j pos) (tC (.str x)):=fun _ _ _ H _ I h=>Calls.Constant_str ⟨.str x,H,I.tok _,⟨_,rfl⟩,h⟩
def Gl (X:Cx) (x:Str):Prop:=X.env.kindOf x=some .globalImplicit
theorem QM {E:Value->Shared->Prop}{pins:List (Addr×Obj)}{s:Shared}{σ:St}{H:Hp}{x:Str}{u:Value}{pos:Pos}{Q:Value->Shared->Prop} (I:Inv X pins σ H s) (hg:Gl X x) (hm:X.mg x=some u) (h:Q u s)
  (hd:(x==("__debug__":Str))=false:=by decide):wpAny (model X.prog X.w) X.A (eval (.Name x pos) X.env) Q E s:=
 Calls.Name_function_global I.ok.kind hg (Calls.loadGlobal_global (by rw[I.ok.glob];exact I.mod.glob.keeps I.bk) hm h) hd
theorem Zb6 {E:Value->Shared->Prop}{pins:List (Addr×Obj)}{s:Shared}{σ:St}{H:Hp}{x:Str}{u:Value}{pos:Pos}{Q:Value->Shared->Prop} (I:Inv X pins σ H s) (hg:Gl X x) (hm:X.mg x=none) (hv:bootBuiltins x=some u) (h:Q u s)
  (hn:x ≠ "__name__":=by decide) (hd:(x==("__debug__":Str))=false:=by decide):wpAny (model X.prog X.w) X.A (eval (.Name x pos) X.env) Q E s:=by
 obtain⟨mb,h1,h2⟩:=I.mod.blt
 exact Calls.Name_function_global I.ok.kind hg (Calls.loadGlobal_builtin (by rw[I.ok.glob];exact I.mod.glob.keeps I.bk) hm (by rw[I.ok.blt];exact h1.keeps I.bk) ((h2 x hn).trans hv) h) hd
theorem ZiN {x:Str}{v:V}{u:Value}{pos:Pos} (hg:Gl X x) (hm:X.mg x=some u) (r:Jo v u) (hd:(x==("__debug__":Str))=false:=by decide):PE X (.Name x pos) (tC v):=
 fun _ _ _ H _ I h=>QM I hg hm ⟨v,H,I,r,h⟩ hd
theorem Jv {x:Str}{v:V}{u:Value}{pos:Pos} (hg:Gl X x) (hm:X.mg x=none) (hv:bootBuiltins x=some u) (r:Jo v u) (hn:x ≠ "__name__":=by decide) (hd:(x==("__debug__":Str))=false:=by decide):PE X (.Name x pos) (tC v):=
 fun _ _ _ H _ I h=>Zb6 I hg hm hv ⟨v,H,I,r,h⟩ hn hd
variable {a b:Expr}{ta tb:TE}{pos:Pos}
def PC (X:Cx) (op:CmpOp) (a b:Expr) (t:TE):Prop:=
 ∀(pins:List (Addr×Obj)) (s:Shared) (σ:St) (H:Hp) (Q:VK),Inv X pins σ H s->t σ H Q ->
  wpAny (model X.prog X.w) X.A (eval a X.env) (fun v s₁=>wpAny (model X.prog X.w) X.A (eval b X.env) (fun u s₂=>wpAny (model X.prog X.w) X.A (compareOp op v u) (EP X pins σ Q) X.xe s₂) X.xe s₁) X.xe s
theorem Zhk (b:Expr) {op:CmpOp} (h:op≠.In) (h2:op≠.NotIn):behindInMarks op b=false:=by
 have e1:(op==CmpOp.In)=false:=by cases op<;>first|rfl|exact absurd rfl h
 have e2:(op==CmpOp.NotIn)=false:=by cases op<;>first|rfl|exact absurd rfl h2
 cases b<;>simp[behindInMarks,e1,e2]
noncomputable def tB (t:TE):TT:=fun σ H Q=>t σ H fun x H1=>∃c,x=.bl c/\Q c H1
theorem Zfd {op:CmpOp}{t:TE} (h:PC X op a b t) (h1:behindInMarks op b=false:=by first|exact Zhk _ (by decide) (by decide)|rfl):PT X (.Compare a [op] [b] pos) (tB t):=by
 intro pins s σ H Q I hw
 refine wpAny_isTrue_Compare1 (thn (h pins s σ H _ I hw) fun v s1 h1=>thn h1 fun u s2 h2=>thn h2 fun c s3 ⟨x,H1,I1,r1,q1⟩=>?_) h1
 obtain⟨d,rfl,q⟩:=q1
 cases r1
 exact wpAny_truthy_bool ⟨H1,I1,q⟩
theorem JE {e:Expr}{t:TE} (h:PE X e t) (he:∀whole,isTrue e X.env whole=(do let v <- whole;standAt e.pos;holding [v] (truthy v)):=by exact fun _=>rfl):PT X e (tB t):=by
 intro pins s σ H Q I hw
 refine isTrue_plain (thn (h pins s σ H _ I hw) fun v s1 ⟨x,H1,I1,r1,q1⟩=>?_) (he _)
 obtain⟨d,rfl,q⟩:=q1
 cases r1
 exact wpAny_truthy_bool ⟨H1,I1,q⟩
variable {tA tB':TT}{Zib:List Expr}
noncomputable def tOr (t u:TT):TT:=fun σ H Q=>t σ H fun c H1=>if c=true then Q true H1 else u σ H1 Q
noncomputable def Zmj (t:TT):TT:=fun σ H Q=>t σ H fun c H1=>Q (!c) H1
theorem Ua (ha:PT X a tA):PW X (.BoolOp .Or [a] pos) tA:=by
 intro wh pins s σ H Q I h
 refine isTrue_or (thn (ha pins s σ H Q I h) fun c s1 e=>?_)
 cases c with
 |false=>exact isTrue_or_nil e
 |true=>exact e
theorem VC (ha:PT X a tA) (hb:PW X (.BoolOp .Or (b::Zib) pos) tB'):PW X (.BoolOp .Or (a::b::Zib) pos) (tOr tA tB'):=by
 intro wh pins s σ H Q I h
 refine isTrue_or (thn (ha pins s σ H _ I h) fun c s1 ⟨H1,I1,q1⟩=>?_)
 cases c with
 |true=>exact⟨H1,I1,q1⟩
 |false=>exact hb wh pins s1 σ H1 Q I1 q1
theorem JO (ha:PT X a tA):PT X (.UnaryOp .Not a pos) (Zmj tA):=by
 intro pins s σ H Q I h
 exact isTrue_not (ha pins s σ H (fun c H1=>Q (!c) H1) I h)
noncomputable def Zkp (ta tb:TE):TE:=fun σ H Q=>ta σ H fun x H1=>∃c,x=.bl c/\if c=true then tb σ H1 Q else Q (.bl false) H1
noncomputable def Zkj (ta:TE):TE:=fun σ H Q=>ta σ H fun x H1=>∃c,x=.bl c/\Q (.bl (!c)) H1
theorem Zdt {op}{t:TE} (h:PE X a t):PE X (.BoolOp op [a] pos) t:=fun pins s σ H Q I hw=>BoolOp_one (h pins s σ H Q I hw)
theorem Zdu (ha:PE X a ta) (hb:PE X (.BoolOp .And (b::Zib) pos) tb):PE X (.BoolOp .And (a::b::Zib) pos) (Zkp ta tb):=by
 intro pins s σ H Q I h
 refine BoolOp_and (thn (ha pins s σ H _ I h) fun v s1 ⟨x,H1,I1,r1,q1⟩=>?_)
 obtain⟨c,rfl,q1⟩:=q1
 cases r1
 refine wpAny_truthy_bool ?_
 cases c with
 |true=>exact hb pins s1 σ H1 Q I1 q1
 |false=>exact⟨.bl false,H1,I1,rfl,q1⟩
theorem Zk7 (ha:PE X a ta):PE X (.UnaryOp .Not a pos) (Zkj ta):=by
 intro pins s σ H Q I h
 refine UnaryOp_ (thn (ha pins s σ H _ I h) fun v s1 ⟨x,H1,I1,r1,q1⟩=>?_)
 obtain⟨c,rfl,q1⟩:=q1
 cases r1
 exact not_of (wpAny_truthy_bool ⟨.bl (!c),H1,I1,rfl,q1⟩)
end
def SqL (K:W.Frag) (H:Hp) (a:Addr) (xs:List V):Prop:=
 Rd H a (.lst xs) \/
  ∃(o:Obj) (its:Array Value) (n:Nat),K.lookup a=some o/\o.cls=.type "list"/\o.dict=none/\o.data=.seq its n/\its.size<=sizeLine/\ZX xs its.toList
def SqT (K:W.Frag) (H:Hp) (a:Addr) (xs:List V):Prop:=
 Rd H a (.tup xs) \/
  ∃(o:Obj) (its:Array Value) (n:Nat),K.lookup a=some o/\o.cls=.type "tuple"/\o.data=.seq its n/\its.size<=sizeLine/\ZX xs its.toList
noncomputable def Znt:Value->Option V
 |.none=>some .non
 |.bool b=>some (.bl b)
 |.int i _=>some (.int i)
 |.str x _=>some (.str x)
 |.bytes b _=>some (.byt b)
 |.float b _=>some (.flt b)
 |.ref a=>some (.ref a)
 |.type n=>some (.ty n)
 |_=>none
theorem Jo.abs {x:V}{u:Value} (r:Jo x u):Znt u=some x:=by
 cases x with
 |non=>cases r;rfl
 |bl _=>cases r;rfl
 |int _=>obtain⟨t,rfl⟩:=r;rfl
 |str _=>obtain⟨t,rfl⟩:=r;rfl
 |byt _=>obtain⟨t,rfl⟩:=r;rfl
 |flt _=>obtain⟨t,rfl⟩:=r;rfl
 |ref _=>cases r;rfl
 |ty _=>cases r;rfl
theorem Jo.inj {x y:V}{u:Value} (r:Jo x u) (q:Jo y u):x=y:=Option.some.inj (r.abs.symm.trans q.abs)
theorem ZX.inj:∀{xs ys:List V}{us:List Value},ZX xs us->ZX ys us->xs=ys
 |_,_,_,.nil,.nil=>rfl
 |_,_,_,.cons r t,.cons r' t'=>by rw[r.inj r',ZX.inj t t']
section
variable {X:Cx}{pins:List (Addr×Obj)}{σ:St}{H:Hp}{s:Shared}{a:Addr}{xs ys:List V}
theorem SqL.of {K:W.Frag} (h:H a=some (.lst xs)):SqL K H a xs:=.inl (.inl h)
theorem Inv.list (I:Inv X pins σ H s) (h:SqL X.K H a xs):∃its:List Value,ZX xs its/\PlainL s.heap a its.toArray/\xs.length<=sizeLine:=by
 rcases h with h|⟨o,its,n,hk,hc,hd,hs,hz,r⟩
 ·obtain⟨z,its,n,r,e⟩:=h.ok I.hok
  exact⟨its,r,⟨_,n,e,rfl,rfl,rfl⟩,z⟩
 ·refine⟨its.toList,r,⟨o,n,I.kIn a o hk,hc,hd,by simpa using hs⟩, ?_⟩
  have e:=r.length
  simp only[ZsX] at e
  omega
theorem Inv.tuple (I:Inv X pins σ H s) (h:SqT X.K H a xs):∃its:List Value,ZX xs its/\IsTup s.heap a its.toArray/\xs.length<=sizeLine:=by
 rcases h with h|⟨o,its,n,hk,hc,hs,hz,r⟩
 ·obtain⟨z,its,r,p⟩:=h.ok I.hok
  exact⟨its,r,p,z⟩
 ·refine⟨its.toList,r,⟨o,I.kIn a o hk,hc,n,by simpa using hs⟩, ?_⟩
  have e:=r.length
  simp only[ZsX] at e
  omega
theorem Inv.list_inj (I:Inv X pins σ H s) (h:SqL X.K H a xs) (h':SqL X.K H a ys):xs=ys:=by
 obtain⟨its,r,⟨o,n,e,_,_,d⟩,_⟩:=I.list h
 obtain⟨its',r',⟨o',n',e',_,_,d'⟩,_⟩:=I.list h'
 rw[e] at e';cases e'
 rw[d] at d'
 injection d' with d1 _
 have:its=its':=by simpa using congrArg Array.toList d1
 subst this
 exact r.inj r'
theorem Inv.tuple_inj (I:Inv X pins σ H s) (h:SqT X.K H a xs) (h':SqT X.K H a ys):xs=ys:=by
 obtain⟨its,r,⟨o,e,_,n,d⟩,_⟩:=I.tuple h
 obtain⟨its',r',⟨o',e',_,n',d'⟩,_⟩:=I.tuple h'
 rw[e] at e';cases e'
 rw[d] at d'
 injection d' with d1 _
 have:its=its':=by simpa using congrArg Array.toList d1
 subst this
 exact r.inj r'
end
noncomputable abbrev Cx.wish (X:Cx) (E:Value->Shared->Prop):Cx:={ X with xe:=E }
noncomputable abbrev Cx.nox (X:Cx):Cx:=X.wish fun _ _=>False
theorem Cx.Ok.wish {X:Cx} (ok:X.Ok) (E:Value->Shared->Prop):(X.wish E).Ok:=
 ⟨ok.mod,ok.kind,ok.glob,ok.blt,ok.above,ok.inj,ok.has,ok.cab,ok.hd,ok.frames,ok.stk,ok.exf,ok.bs,ok.bsz,ok.noex,ok.exfs,ok.funs,ok.frf⟩
theorem Cx.Ok.unwish {X:Cx}{E:Value->Shared->Prop} (ok:(X.wish E).Ok):X.Ok:=
 ⟨ok.mod,ok.kind,ok.glob,ok.blt,ok.above,ok.inj,ok.has,ok.cab,ok.hd,ok.frames,ok.stk,ok.exf,ok.bs,ok.bsz,ok.noex,ok.exfs,ok.funs,ok.frf⟩
section
variable {X:Cx}{pins:List (Addr×Obj)}{σ:St}{H:Hp}{s:Shared}{E:Value->Shared->Prop}
theorem Inv.wish (I:Inv X pins σ H s) (E:Value->Shared->Prop):Inv (X.wish E) pins σ H s:=⟨I.ok.wish E,I.os,I.bare,I.base,I.loc,I.cell,I.free,I.freeC,I.pin,I.hok,I.len⟩
theorem Inv.unwish (I:Inv (X.wish E) pins σ H s):Inv X pins σ H s:=⟨I.ok.unwish,I.os,I.bare,I.base,I.loc,I.cell,I.free,I.freeC,I.pin,I.hok,I.len⟩
theorem SP.unwish {D:ZgA}{f:Flow}{s':Shared} (h:SP (X.wish E) pins D f s'):SP X pins D f s':=by
 cases f with
 |next=>obtain⟨σ',H',I,q⟩:=h;exact⟨σ',H',I.unwish,q⟩
 |brk=>obtain⟨σ',H',I,q⟩:=h;exact⟨σ',H',I.unwish,q⟩
 |cont=>obtain⟨σ',H',I,q⟩:=h;exact⟨σ',H',I.unwish,q⟩
 |ret u=>obtain⟨v,σ',H',I,r,q⟩:=h;exact⟨v,σ',H',I.unwish,r,q⟩
theorem PSs.nox {st:List Stmt}{t:TS} (h:PSs X.nox st t):PSs X st t:=fun pins s σ H D I hw =>
 wpAny_mono (h pins s σ H D (I.wish _) hw) (fun _ _ q=>q.unwish) fun _ _ z=>False.elim z
end
section
variable {X:Cx}{st:Stmt}{Zib:List Stmt}{t u:TS}{e:Expr}{te:TE}{pos:Pos}
noncomputable def Zi8:TS:=fun D σ H=>D.nx σ H
noncomputable def ZmL (t u:TS):TS:=fun D σ H=>t { D with nx:=u D } σ H
theorem ZB:PSs X [] Zi8:=fun _ _ σ H _ I h=>wpAny_execs_nil ⟨σ,H,I,h⟩
theorem Zd (h1:PS X st t) (h2:PSs X Zib u):PSs X (st::Zib) (ZmL t u):=by
 intro pins s σ H D I h
 refine wpAny_execs_cons (thn (h1 pins s σ H { D with nx:=u D } I h) fun f s1 q=>?_)
 cases f with
 |next =>
  obtain⟨σ',H',I',q⟩:=q
  exact h2 pins s1 σ' H' D I' q
 |ret v=>exact q
 |brk=>exact q
 |cont=>exact q
theorem Zj (h1:PS X st t):PSs X [st] t:=by
 intro pins s σ H D I h
 refine wpAny_execs_cons (thn (h1 pins s σ H D I h) fun f s1 q=>?_)
 cases f with
 |next=>exact wpAny_execs_nil q
 |ret v=>exact q
 |brk=>exact q
 |cont=>exact q
theorem Inv.quiet {pins:List (Addr×Obj)}{σ:St}{H:Hp}{s:Shared} (I:Inv X pins σ H s):interactive X.env=false:=by simp[interactive,I.ok.kind]
noncomputable def Zbl (te:TE):TS:=fun D σ H=>te σ H fun _ H1=>D.nx σ H1
theorem Jq (he:PE X e te) (hs:swapsWith e none pos.line X.env=pure false:=by rfl):PS X (.Expr e pos) (Zbl te):=by
 intro pins s σ H D I h
 exact wpAny_Expr_any (thn (he pins s σ H _ I h) fun v s1 ⟨x,H1,I1,r1,q1⟩=>⟨σ,H1,I1,q1⟩) I.quiet hs
noncomputable def Zkh (te:TE):TS:=fun D σ H=>te σ H D.rt
theorem Z0 (he:PE X e te):PS X (.Return (some e) pos) (Zkh te):=by
 intro pins s σ H D I h
 exact wpAny_Return_some (thn (he pins s σ H _ I h) fun v s1 ⟨x,H1,I1,r1,q1⟩=>⟨x,σ,H1,I1,r1,q1⟩)
noncomputable def ZlQ (c:TT) (t u:TS):TS:=fun D σ H=>c σ H fun b H1=>if b=true then t D σ H1 else u D σ H1
theorem J5 {c:Expr}{a b:List Stmt}{tc:TT} (hc:PT X c tc) (ha:PSs X a t) (hb:PSs X b u):PS X (.If c a b pos) (ZlQ tc t u):=by
 intro pins s σ H D I h
 refine wpAny_If (thn (hc pins s σ H _ I h) fun d s1 ⟨H1,I1,q1⟩=>?_)
 cases d with
 |true=>exact ha pins s1 σ H1 D I1 q1
 |false=>exact hb pins s1 σ H1 D I1 q1
end
noncomputable abbrev TG:=V->St->Hp->(St->Hp->Prop)->Prop
noncomputable abbrev TGs:=List V->St->Hp->(St->Hp->Prop)->Prop
def PG (X:Cx) (target:Expr) (t:TG):Prop:=
 ∀(pins:List (Addr×Obj)) (s:Shared) (σ:St) (H:Hp) (v:V) (u:Value) (Q:St->Hp->Prop),Inv X pins σ H s->Jo v u->t v σ H Q ->
  wpAny (model X.prog X.w) X.A (assign target X.env u) (fun _ s'=>∃σ' H',Inv X pins σ' H' s'/\Q σ' H') X.xe s
def PGs (X:Cx) (ts:List Expr) (t:TGs):Prop:=
 ∀(pins:List (Addr×Obj)) (s:Shared) (σ:St) (H:Hp) (vs:List V) (us:List Value) (Q:St->Hp->Prop),Inv X pins σ H s->ZX vs us->t vs σ H Q ->
  wpAny (model X.prog X.w) X.A (assignInOrder ((assignEach ts X.env).map (·.2)) us) (fun _ s'=>∃σ' H',Inv X pins σ' H' s'/\Q σ' H') X.xe s
noncomputable abbrev ZlJ:=V->V->V->Hp->(Hp->Prop)->Prop
def ZmG (X:Cx) (t:ZlJ):Prop:=
 ∀(pins:List (Addr×Obj)) (s:Shared) (σ:St) (H:Hp) (o i v:V) (ov iv u:Value) (Q:Hp->Prop),Inv X pins σ H s->Jo o ov->Jo i iv->Jo v u->t o i v H Q ->
  wpAny (model X.prog X.w) X.A (setItem ov iv u) (fun _ s'=>∃H',Inv X pins σ H' s'/\Q H') X.xe s
noncomputable abbrev TIp:=V->V->Hp->VK->Prop
def PIp (X:Cx) (op:Operator) (t:TIp):Prop:=
 ∀(pins:List (Addr×Obj)) (s:Shared) (σ:St) (H:Hp) (x y:V) (v u:Value) (Q:VK),Inv X pins σ H s->Jo x v->Jo y u->t x y H Q ->
  wpAny (model X.prog X.w) X.A (inplaceOp op v u) (EP X pins σ Q) X.xe s
section
variable {X:Cx}{pos:Pos}
noncomputable def Zad (i:Nat):TG:=fun v σ H Q=>Q (σ.set i (some v)) H
theorem ZN {i:Nat}{x:Str} (hN:X.N.Nodup) (hi:X.N[i]?=some x) (hx:Loc X.env.scope x) (hf:X.fn x=true\/X.env.scope.names.lookup x=some .local:=by first|exact .inl rfl|exact .inr rfl|assumption):PG X (.Name x pos) (Zad i):=by
 intro pins s σ H v u Q I r h
 exact wpAny_assign_Name (Za7 I hN hi hx r (fun s' I'=>⟨_,H,I',h⟩) hf)
noncomputable def ZmX:TGs:=fun vs σ H Q=>vs=[]/\Q σ H
noncomputable def Zlo (t:TG) (u:TGs):TGs:=fun vs σ H Q=>∃v r,vs=v::r/\t v σ H fun σ' H'=>u r σ' H' Q
theorem Zfg:PGs X [] ZmX:=by
 intro pins s σ H vs us Q I r h
 obtain⟨e,h⟩:=h
 subst e
 cases r
 exact assignInOrder_nil ⟨σ,H,I,h⟩
theorem Qn {e:Expr}{es:List Expr}{t:TG}{u:TGs} (h1:PG X e t) (h2:PGs X es u)
  (hs:(assignEach (e::es) X.env).map (·.2)=assign e X.env::(assignEach es X.env).map (·.2):=by rfl):PGs X (e::es) (Zlo t u):=by
 intro pins s σ H vs us Q I r h
 obtain⟨v,vr,e1,h⟩:=h
 subst e1
 cases r with
 |cons r rr =>
  rw[hs]
  refine assignInOrder_cons (thn (h1 pins s σ H _ _ _ I r h) fun _ s1 ⟨σ1,H1,I1,q1⟩=>?_)
  exact h2 pins s1 σ1 H1 _ _ Q I1 rr q1
noncomputable def ZmV (K:W.Frag) (n:Nat) (t:TGs):TG:=fun v σ H Q=>∃a xs,v=.ref a/\SqT K H a xs/\xs.length=n/\t xs σ H Q
theorem Zid {es:List Expr}{k:Nat}{t:TGs}{n:Nat} (hc:X.calm=true) (h:PGs X es t)
  (hn:(assignEach es X.env).length=n:=by rfl) (hst:(assignEach es X.env).findIdx? (·.1)=none:=by rfl):PG X (.Tuple es k pos) (ZmV X.K n t):=by
 intro pins s σ H v u Q I r hw
 obtain⟨a,xs,e1,hq,hl,hw⟩:=hw
 subst e1
 cases r
 obtain⟨its,rv,ht,hz⟩:=I.tuple hq
 refine assign_Tuple_tuple (I.ok.hd hc) ht (by simp[hn,<- hl,rv.length]) hst fun h' hx=>?_
 have I1:Inv X pins σ H { s with heap:=h' }:=I.kept (t':=s.toks) fun b o e=>hx b o (Zt5 (Heap.lt_size e)) e
 exact h pins _ σ H xs _ Q I1 (by simpa using rv) hw
noncomputable def ZmW (to ti:TE) (t:ZlJ):TG:=fun v σ H Q=>to σ H fun o H1=>ti σ H1 fun i H2=>t o i v H2 fun H3=>Q σ H3
theorem Zai {o i:Expr}{to ti:TE}{t:ZlJ} (ho:PE X o to) (hi:PE X i ti) (hs:ZmG X t)
  (ha:∀v,assign (.Subscript o i pos) X.env v=(do
   let ov <- holding [v] (eval o X.env)
   let iv <- holding [v,ov] (eval i X.env)
   standAt pos
   holding [v,ov,iv] (setItem ov iv v)
   release [v,ov,iv] []):=by exact fun _=>rfl):PG X (.Subscript o i pos) (ZmW to ti t):=by
 intro pins s σ H v u Q I r h
 rw[ha]
 refine wpAny_bind (wpAny_holding (thn (ho pins s σ H _ I h) fun ov s1 ⟨x,H1,I1,r1,q1⟩=>?_))
 refine wpAny_bind (wpAny_holding (thn (hi pins s1 σ H1 _ I1 q1) fun iv s2 ⟨y,H2,I2,r2,q2⟩=>?_))
 refine wpAny_bind (wpAny_standAt (wpAny_bind (wpAny_holding (thn (hs pins s2 σ H2 x y v ov iv u _ I2 r1 r2 r q2) fun _ s3 ⟨H3,I3,q3⟩=>?_))))
 exact wpAny_release ⟨σ,H3,I3,q3⟩
noncomputable def Zi9 (te:TE) (g:TG):TS:=fun D σ H=>te σ H fun x H1=>g x σ H1 D.nx
theorem UW {tg e:Expr}{te:TE}{g:TG} (he:PE X e te) (hg:PG X tg g) (hs:swapsWithSole [tg] e pos.line X.env=pure false:=by rfl) (hw:swappedStores [tg] e X.env=pure none:=by rfl)
  (h1:(assignEach [tg] X.env).map (·.2)=[assign tg X.env]:=by rfl):PS X (.Assign [tg] e pos) (Zi9 te g):=by
 intro pins s σ H D I h
 refine wpAny_Assign_stores (thn (he pins s σ H _ I h) fun v s1 ⟨x,H1,I1,r1,q1⟩=>?_) hs hw
 rw[h1]
 exact thn (hg pins s1 σ H1 x v _ I1 r1 q1) fun _ s2 q=>q
theorem Z5 {i:Nat}{x:Str}{e:Expr}{te:TE}{pos':Pos} (hN:X.N.Nodup) (hi:X.N[i]?=some x) (hx:Loc X.env.scope x) (he:PE X e te) (hs:swapsWith e (some (.Name x pos')) pos.line X.env=pure false:=by rfl) (hf:X.fn x=true\/X.env.scope.names.lookup x=some .local:=by first|exact .inl rfl|exact .inr rfl|assumption) :
  PS X (.Assign [.Name x pos'] e pos) (Zi9 te (Zad i)):=by
 intro pins s σ H D I h
 refine wpAny_Assign_Name (thn (he pins s σ H _ I h) fun v s1 ⟨y,H1,I1,r1,q1⟩=>?_) hs
 exact Za7 I1 hN hi hx r1 (fun s2 I2=>⟨_,H1,I2,q1⟩) hf
noncomputable def Zko (to ti te:TE) (tget:V->V->Hp->VK->Prop) (tip:TIp) (tset:ZlJ):TS:=fun D σ H=>to σ H fun o H1=>ti σ H1 fun i H2=>tget o i H2 fun x H3=>te σ H3 fun y H4=>tip x y H4 fun z H5=>tset o i z H5 fun H6=>D.nx σ H6
def ZmH (X:Cx) (t:V->V->Hp->VK->Prop):Prop:=
 ∀(pins:List (Addr×Obj)) (s:Shared) (σ:St) (H:Hp) (o i:V) (ov iv:Value) (Q:VK),Inv X pins σ H s->Jo o ov->Jo i iv->t o i H Q ->
  wpAny (model X.prog X.w) X.A (getItem ov iv) (EP X pins σ Q) X.xe s
theorem ZiJ {o i e:Expr}{to ti te:TE}{tget:V->V->Hp->VK->Prop}{tip:TIp}{tset:ZlJ}{op:Operator}{tpos:Pos} (ho:PE X o to) (hi:PE X i ti) (hg:ZmH X tget) (he:PE X e te) (hp:PIp X op tip) (hs:ZmG X tset)
  (ha:∀ov iv new,augStore i ov iv new=(do holding [new,ov,iv] (setItem ov iv new);release [new,ov,iv] [];pure .next):=by intros;rfl):PS X (.AugAssign (.Subscript o i tpos) op e pos) (Zko to ti te tget tip tset):=by
 intro pins s σ H D I h
 refine wpAny_AugAssign_SubscriptAny (thn (ho pins s σ H _ I h) fun ov s1 ⟨x1,H1,I1,r1,q1⟩=>?_) ha
 refine thn (hi pins s1 σ H1 _ I1 q1) fun iv s2 ⟨x2,H2,I2,r2,q2⟩=>?_
 refine thn (hg pins s2 σ H2 x1 x2 ov iv _ I2 r1 r2 q2) fun old s3 ⟨x3,H3,I3,r3,q3⟩=>?_
 refine thn (he pins s3 σ H3 _ I3 q3) fun v s4 ⟨x4,H4,I4,r4,q4⟩=>?_
 refine thn (hp pins s4 σ H4 x3 x4 old v _ I4 r3 r4 q4) fun new s5 ⟨x5,H5,I5,r5,q5⟩=>?_
 exact thn (hs pins s5 σ H5 x1 x2 x5 ov iv new _ I5 r1 r2 r5 q5) fun _ s6 ⟨H6,I6,q6⟩=>⟨σ,H6,I6,q6⟩
noncomputable def ipI (f:Int->Int->Int):TIp:=fun x y H Q=>∃i j,x=.int i/\y=.int j/\Q (.int (f i j)) H
theorem Zlh:PIp X .Add (ipI fun i j=>i+j):=by
 intro pins s σ H x y v u Q I r1 r2 h
 obtain⟨i,j,e1,e2,q⟩:=h
 subst e1;subst e2
 obtain⟨t,rfl⟩:=r1
 obtain⟨t',rfl⟩:=r2
 exact iadd_int ⟨.int _,H,I.tok _,⟨_,rfl⟩,q⟩
noncomputable def ZhW (c:TT) (tb:TS):TS:=fun D σ H=>∃W:Nat->St->Hp->Prop,(∃m,W m σ H)/\∀m σ H,W m σ H ->
 c σ H fun b H1=>if b=true then ∃N:St->Hp->Prop,(∀σ' H',N σ' H'->∃m',m'<m/\W m' σ' H')/\tb { D with nx:=N,ct:=N,bk:=D.nx } σ H1 else D.nx σ H1
theorem Zdr {c:Expr}{body:List Stmt}{tc:TT}{tb:TS} (hp:PassesOwn (model X.prog X.w) X.A X.env X.xe) (hc:PT X c tc) (hb:PSs X body tb):PS X (.While c body [] pos) (ZhW tc tb):=by
 intro pins s σ H D I h
 obtain⟨W,⟨m0,w0⟩,turn⟩:=h
 refine wpAny_While (codeAny_whileLoop (fun n s'=>∃σ' H',Inv X pins σ' H' s'/\W n σ' H') ?_ m0 ⟨σ,H,I,w0⟩)
 rintro n s1 ⟨σ1,H1,I1,w1⟩
 refine wpAny_passesOwn hp (thn (hc pins s1 σ1 H1 _ I1 (turn n σ1 H1 w1)) fun b s2 ⟨H2,I2,q2⟩=>?_)
 cases b with
 |true =>
  obtain⟨N,hN,q2⟩:=q2
  rw[if_pos rfl]
  refine wpAny_passesOwn hp (thn (hb pins s2 σ1 H2 _ I2 q2) fun f s3 q3=>?_)
  cases f with
  |next =>
   obtain⟨σ3,H3,I3,n3⟩:=q3
   obtain⟨m',hm,w3⟩:=hN σ3 H3 n3
   exact⟨m',hm,σ3,H3,I3,w3⟩
  |cont =>
   obtain⟨σ3,H3,I3,n3⟩:=q3
   obtain⟨m',hm,w3⟩:=hN σ3 H3 n3
   exact⟨m',hm,σ3,H3,I3,w3⟩
  |brk=>exact q3
  |ret v=>exact q3
 |false =>
  rw[if_neg Bool.false_ne_true]
  exact wpAny_execs_nil ⟨σ1,H2,I2,q2⟩
end
structure It where
 go:Nat->Hp->Prop
 yld:Nat->Hp->V->Hp->Prop
 stop:Nat->Hp->Prop
def ZhQ (X:Cx) (pins:List (Addr×Obj)) (H:Hp) (b:Addr):Prop:=
 H b=none/\b≠X.env.locals/\b ∉ X.fs/\(b∈X.ex\/X.s₀.heap.objs.size<=b)/\(∀x c,X.env.cells.lookup x=some c->c≠b)/\∀p∈X.pn++pins,p.1≠b
theorem Inv.fpOk {X:Cx}{pins:List (Addr×Obj)}{σ:St}{H H':Hp}{s:Shared}{b:Addr} (I:Inv X pins σ H s) (hb:s.heap.objs.size<=b) (hn:H' b=none):ZhQ X pins H' b:=by
 refine⟨hn,ZuW (Ztc I.lt hb),I.nofs hb,.inr (Ztu I.sz hb),fun x c e z=>?_,fun p hp z=>?_⟩
 ·obtain⟨v,q⟩:=I.cell x c e
  exact absurd (Ztc q.lt (by rw[z];exact hb)) (ZtF _)
 ·exact absurd (Ztc (Heap.lt_size (I.pin p hp).1) (by rw[z];exact hb)) (ZtF _)
structure ZlI (P:Program) (w:World) (K:PySem.W.Frag) (tg:Expr) (J:It) (fp:List Addr) (it:Addr) (tn:Nat->Heap->Prop):Prop where
 mem:it∈fp
 obj:∀i h,tn i h->∀b∈fp,∃o,h.get? b=some o/\∀v,o.data≠.cell v
 keep:∀i h h',tn i h->(∀b∈fp,∀o,h.get? b=some o->h'.get? b=some o)->tn i h'
 item:∀(X:Cx),X.prog=P->X.w=w->X.K=K->X.calm=true->∀(i:Nat) (pins:List (Addr×Obj)) (s:Shared) (σ:St) (H:Hp) (E:Value->Shared->Prop),Inv X pins σ H s->(∀b∈fp,ZhQ X pins H b)->tn i s.heap->J.go i H ->
  wpAny (model P w) X.A (pyNext (.ref it)) (fun r s1=>∃u,r=some u /\
   wpAny (model P w) X.A (letOwnedTupleGo tg (.ref it) u) (fun _ s2=>∃x H',Inv X pins σ H' s2/\Jo x u/\J.yld i H x H'/\tn (i+1) s2.heap/\∀b∈fp,H' b=none) E s1) E s
 done:∀(X:Cx),X.prog=P->X.w=w->X.K=K->X.calm=true->∀(i:Nat) (pins:List (Addr×Obj)) (s:Shared) (σ:St) (H:Hp) (E:Value->Shared->Prop),Inv X pins σ H s->(∀b∈fp,ZhQ X pins H b)->tn i s.heap->J.stop i H ->
  wpAny (model P w) X.A (pyNext (.ref it)) (fun r s1=>r=none/\Inv X pins σ H s1) E s
 self:∀(A:Around) (i:Nat) (s:Shared) (Q:Value->Shared->Prop) (E:Value->Shared->Prop),tn i s.heap->Q (.ref it) s->wpAny (model P w) A (pyIter (.ref it)) Q E s
noncomputable abbrev TI:=St->Hp->(It->Hp->Prop)->Prop
def PIE (X:Cx) (pins:List (Addr×Obj)) (σ:St) (tg:Expr) (R:It->Hp->Prop) (itv:Value) (s2:Shared):Prop:=
 ∃(it:Addr) (fp:List Addr) (tn:Nat->Heap->Prop) (J:It) (H':Hp),itv=.ref it/\Inv X pins σ H' s2/\ZlI X.prog X.w X.K tg J fp it tn/\tn 0 s2.heap/\(∀b∈fp,ZhQ X pins H' b)/\R J H'
def PI (X:Cx) (tg iter:Expr) (wi:TI):Prop:=
 ∀(pins:List (Addr×Obj)) (s:Shared) (σ:St) (H:Hp) (R:It->Hp->Prop),Inv X pins σ H s->wi σ H R ->
  wpAny (model X.prog X.w) X.A (eval iter X.env) (fun v s1=>wpAny (model X.prog X.w) X.A (pyIter v) (PIE X pins σ tg R) X.xe s1) X.xe s
theorem Zjr {M:Model}{A:Around}{E:Value->Shared->Prop}{s:Shared}{tg:Expr}{it:Addr}{u:Value}{o:Obj}{n:String}{vs:Array Value}{Q:Unit->Shared->Prop} (ho:s.heap.get? it=some o) (hc:o.cls=.type n) (hd:o.data=.fields vs)
  (hn:["enumerate", "zip", "dict_itemiterator", "dict_reverseitemiterator", "odict_iterator", "itertools.zip_longest", "itertools.pairwise"].contains n=false) (hQ:Q () s):wpAny M A (letOwnedTupleGo tg (.ref it) u) Q E s:=by
 unfold letOwnedTupleGo
 cases tg<;>first
  |exact wpAny_pure hQ
  |(cases u<;>first
    |exact wpAny_pure hQ
    |(refine wpAny_bind (wpAny_load ho ?_)
      rw[hc,hd]
      show wpAny M A (if (["enumerate", "zip", "dict_itemiterator", "dict_reverseitemiterator", "odict_iterator", "itertools.zip_longest", "itertools.pairwise"].contains n&&vs[0]?==some (rawInt _))=true then _ else _) Q E s
      rw[if_neg (by intro h;rw[hn,Bool.false_and] at h;cases h)]
      exact wpAny_pure hQ))
noncomputable def Itl (K:W.Frag) (a:Addr):It:=
 ⟨fun i H=>∃xs x,SqL K H a xs/\xs[i]?=some x,fun i H x H'=>H'=H/\∀xs,SqL K H a xs->xs[i]?=some x,fun i H=>∃xs,SqL K H a xs/\xs.length<=i⟩
noncomputable def Itt (K:W.Frag) (a:Addr):It:=
 ⟨fun i H=>∃xs x,SqT K H a xs/\xs[i]?=some x,fun i H x H'=>H'=H/\∀xs,SqT K H a xs->xs[i]?=some x,fun i H=>∃xs,SqT K H a xs/\xs.length<=i⟩
noncomputable def Itr (lo:Int) (n:Nat):It:=⟨fun i _=>i<n,fun i H x H'=>H'=H/\x=.int (lo+i),fun i _=>n<=i⟩
theorem ZeE {P:Program}{w:World}{K:W.Frag}{tg:Expr} (a it:Addr):ZlI P w K tg (Itl K a) [it] it (fun i h=>h.IsListIter it a i) where
 mem:=by simp
 obj:=fun i h st b hb=>by
  have e:b=it:=by simpa using hb
  subst e
  obtain⟨o,e,c,d⟩:=st
  exact⟨o,e,fun v z=>by rw[d] at z;cases z⟩
 keep:=fun i h h' st k=>st.at fun o e=>k it (by simp) o e
 item:=by
  intro X hP hw hK hc i pins s σ H E I hf st hg
  subst hP hw hK
  obtain⟨xs,x,hq,hx⟩:=hg
  obtain⟨its,rv,p,hz⟩:=I.list hq
  obtain⟨u,hu,ru⟩:=rv.get hx
  obtain⟨f0,f1,f2,f3,f4,f5⟩:=hf it (by simp)
  refine wpAny_pyNext_list_item st p.isList (x:=u) (by simpa using hu) fun h' st' sb=>?_
  have I1:Inv X pins σ H { s with heap:=h' }:=I.turned (t':=s.toks) (fun b o hb e=>(sb.2 b hb).trans e) f0 f1 f3 f4 f5
  obtain⟨o,e,c,d⟩:=id st'
  exact⟨u,rfl,Zjr (s:={ s with heap:=h' }) e c d (by decide) ⟨x,H,I1,ru,⟨rfl,fun ys hy=>by rw[I.list_inj hy hq];exact hx⟩,st',fun b hb=>(hf b hb).1⟩⟩
 done:=by
  intro X hP hw hK hc i pins s σ H E I hf st hg
  subst hP hw hK
  obtain⟨xs,hq,hx⟩:=hg
  obtain⟨its,rv,p,hz⟩:=I.list hq
  obtain⟨f0,f1,f2,f3,f4,f5⟩:=hf it (by simp)
  have hl:=rv.length
  exact wpAny_pyNext_list_end (I.ok.hd hc) st p.isList (by simp;omega) fun h' eb=>⟨rfl,I.turned (t':=s.toks) (fun b o hb e=>eb b o hb e) f0 f1 f3 f4 f5⟩
 self:=fun _ _ _ _ _ st h=>wpAny_pyIter_listiter st h
theorem Zea {P:Program}{w:World}{K:W.Frag}{tg:Expr} (a it:Addr):ZlI P w K tg (Itt K a) [it] it (fun i h=>h.IsTupleIter it a i) where
 mem:=by simp
 obj:=fun i h st b hb=>by
  have e:b=it:=by simpa using hb
  subst e
  obtain⟨o,e,c,d⟩:=st
  exact⟨o,e,fun v z=>by rw[d] at z;cases z⟩
 keep:=fun i h h' st k=>st.at fun o e=>k it (by simp) o e
 item:=by
  intro X hP hw hK hc i pins s σ H E I hf st hg
  subst hP hw hK
  obtain⟨xs,x,hq,hx⟩:=hg
  obtain⟨its,rv,p,hz⟩:=I.tuple hq
  obtain⟨u,hu,ru⟩:=rv.get hx
  obtain⟨f0,f1,f2,f3,f4,f5⟩:=hf it (by simp)
  refine wpAny_pyNext_tuple_item st (show s.heap.IsTuple a its.toArray from p) (x:=u) (by simpa using hu) fun h' st' sb=>?_
  have I1:Inv X pins σ H { s with heap:=h' }:=I.turned (t':=s.toks) (fun b o hb e=>(sb.2 b hb).trans e) f0 f1 f3 f4 f5
  obtain⟨o,e,c,d⟩:=id st'
  exact⟨u,rfl,Zjr (s:={ s with heap:=h' }) e c d (by decide) ⟨x,H,I1,ru,⟨rfl,fun ys hy=>by rw[I.tuple_inj hy hq];exact hx⟩,st',fun b hb=>(hf b hb).1⟩⟩
 done:=by
  intro X hP hw hK hc i pins s σ H E I hf st hg
  subst hP hw hK
  obtain⟨xs,hq,hx⟩:=hg
  obtain⟨its,rv,p,hz⟩:=I.tuple hq
  obtain⟨f0,f1,f2,f3,f4,f5⟩:=hf it (by simp)
  have hl:=rv.length
  exact wpAny_pyNext_tuple_end (I.ok.hd hc) st (show s.heap.IsTuple a its.toArray from p) (by simp;omega) fun h' eb=>⟨rfl,I.turned (t':=s.toks) (fun b o hb e=>eb b o hb e) f0 f1 f3 f4 f5⟩
 self:=fun _ _ _ _ _ st h=>wpAny_pyIter_tupleiter st h
theorem Zeb {P:Program}{w:World}{K:W.Frag}{tg:Expr} (it:Addr) (lo:Int) (n:Nat):ZlI P w K tg (Itr lo n) [it] it (fun i h=>IsRangeIter h it (lo+(i:Nat)*1) ((n:Int)-(i:Nat)) 1) where
 mem:=by simp
 obj:=fun i h st b hb=>by
  have e:b=it:=by simpa using hb
  subst e
  exact⟨_,st,fun v z=>by
   have z':Data.fields _=Data.cell v:=z
   cases z'⟩
 keep:=fun i h h' st k=>k it (by simp) _ st
 item:=by
  intro X hP hw hK hc i pins s σ H E I hf st hg
  subst hP hw hK
  obtain⟨f0,f1,f2,f3,f4,f5⟩:=hf it (by simp)
  have W:=Walks.range (prog:=X.prog) (w:=X.w) (I.ok.hd hc) it lo 1 n
  refine W.item i s _ _ hg st fun v h' tk hv st' kk=>?_
  obtain⟨t,rfl⟩:=hv
  have I1:Inv X pins σ H { s with heap:=h',toks:=tk }:=I.turned (fun b o hb e=>kk b o (by simpa using hb) e) f0 f1 f3 f4 f5
  refine⟨_,rfl,Zjr (s:={ s with heap:=h',toks:=tk }) (n := "range_iterator") st' rfl rfl (by decide) ⟨.int (lo+i),H,I1,⟨t, ?_⟩,⟨rfl,rfl⟩,st',fun b hb=>(hf b hb).1⟩⟩
  rw[Int.mul_one]
 done:=by
  intro X hP hw hK hc i pins s σ H E I hf st hg
  subst hP hw hK
  obtain⟨f0,f1,f2,f3,f4,f5⟩:=hf it (by simp)
  exact wpAny_pyNext_range_end (I.ok.hd hc) st (by have:n<=i:=hg;omega) fun h' eb=>⟨rfl,I.turned (t':=s.toks) (fun b o hb e=>eb b o hb e) f0 f1 f3 f4 f5⟩
 self:=fun _ _ _ _ _ st h=>wpAny_pyIter_rangeiter st h
section
variable {X:Cx}{tg:Expr}
noncomputable def ZfL (K:W.Frag) (tl:TE):TI:=fun σ H R=>tl σ H fun x H1=>∃a,x=.ref a/\(∃xs,SqL K H1 a xs)/\R (Itl K a) H1
noncomputable def Zm4 (K:W.Frag) (tl:TE):TI:=fun σ H R=>tl σ H fun x H1=>∃a,x=.ref a/\(∃xs,SqT K H1 a xs)/\R (Itt K a) H1
theorem ZiM {l:Expr}{tl:TE} (hl:PE X l tl):PI X tg l (ZfL X.K tl):=by
 intro pins s σ H R I h
 refine thn (hl pins s σ H _ I h) fun v s1 ⟨x,H1,I1,r1,q1⟩=>?_
 obtain⟨a,e,⟨xs,hq⟩,q⟩:=q1
 subst e
 cases r1
 obtain⟨its,rv,p,hz⟩:=I1.list hq
 refine wpAny_pyIter_list p.isList ?_
 refine⟨s1.heap.objs.size,[s1.heap.objs.size],_,_,H1,rfl,I1.kept (t':=s1.toks) fun b o e=>Heap.get?_push_of_some _ e,ZeE a _,⟨_,Heap.get?_push_size _ rfl,rfl,rfl⟩,fun b hb=>?_,q⟩
 have e:b=s1.heap.objs.size:=by simpa using hb
 subst e
 exact I1.fpOk (ZsU _) (I1.hok.fresh (ZsU _))
theorem Zk3 {l:Expr}{tl:TE} (hl:PE X l tl):PI X tg l (Zm4 X.K tl):=by
 intro pins s σ H R I h
 refine thn (hl pins s σ H _ I h) fun v s1 ⟨x,H1,I1,r1,q1⟩=>?_
 obtain⟨a,e,⟨xs,hq⟩,q⟩:=q1
 subst e
 cases r1
 obtain⟨its,rv,p,hz⟩:=I1.tuple hq
 refine wpAny_pyIter_tuple (show s1.heap.IsTuple a its.toArray from p) ?_
 refine⟨s1.heap.objs.size,[s1.heap.objs.size],_,_,H1,rfl,I1.kept (t':=s1.toks) fun b o e=>Heap.get?_push_of_some _ e,Zea a _,⟨_,Heap.get?_push_size _ rfl,rfl,rfl⟩,fun b hb=>?_,q⟩
 have e:b=s1.heap.objs.size:=by simpa using hb
 subst e
 exact I1.fpOk (ZsU _) (I1.hok.fresh (ZsU _))
theorem Zdo {pins:List (Addr×Obj)}{σ:St}{H:Hp}{s:Shared}{R:It->Hp->Prop}{E:Value->Shared->Prop}{lo hi:Int}{t u v:Tok}{tk:Nat} (I:Inv X pins σ H s) (h1:-(2^62)<=lo) (h2:lo<2^62) (h3:-(2^62)<=hi) (h4:hi<2^62)
  (q:R (Itr lo (hi-lo).toNat) H):wpAny (model X.prog X.w) X.A (pyIter (.ref s.heap.objs.size)) (PIE X pins σ tg R) E { s with heap:=s.heap.push { cls:=.type "range",data:=.fields #[.int lo t,.int hi u,.int 1 v] },toks:=tk }:=by
 refine wpAny_pyIter_range (IsRange.new ..) (small_one h1 h2 h3 h4) ?_
 have I1:Inv X pins σ H { s with heap:=s.heap.push { cls:=.type "range",data:=.fields #[.int lo t,.int hi u,.int 1 v] },toks:=tk }:=I.kept fun b o e=>Heap.get?_push_of_some _ e
 refine⟨(s.heap.push { cls:=.type "range",data:=.fields #[.int lo t,.int hi u,.int 1 v] }).objs.size,[(s.heap.push { cls:=.type "range",data:=.fields #[.int lo t,.int hi u,.int 1 v] }).objs.size],_,_,H,rfl,
  I1.kept (t':=tk) fun b o e=>Heap.get?_push_of_some _ e,Zeb _ lo (hi-lo).toNat, ?_,fun b hb=>?_,q⟩
 ·have e1:lo+((0:Nat):Int)*1=lo:=by simp
  have e2:(((hi-lo).toNat:Nat):Int)-((0:Nat):Int)=Builtin.Range.rangeSize lo hi 1:=by rw[rangeSize_one];split<;>omega
  show IsRangeIter _ _ (lo+((0:Nat):Int)*1) ((((hi-lo).toNat:Nat):Int)-((0:Nat):Int)) 1
  rw[e1,e2]
  exact Heap.get?_push_size _ rfl
 ·have e:b=(s.heap.push { cls:=.type "range",data:=.fields #[.int lo t,.int hi u,.int 1 v] }).objs.size:=by simpa using hb
  subst e
  exact I1.fpOk (ZsU _) (I1.hok.fresh (ZsU _))
noncomputable def Zlk (ta:TA):TI:=fun σ H R=>ta σ H fun vs H1=>∃j:Int,vs=[.int j]/\-(2^62)<=j/\j<2^62/\R (Itr 0 j.toNat) H1
noncomputable def Zlj (ta:TA):TI:=fun σ H R=>ta σ H fun vs H1=>∃i j:Int,vs=[.int i,.int j]/\(-(2^62)<=i/\i<2^62/\-(2^62)<=j/\j<2^62)/\R (Itr i (j-i).toNat) H1
theorem Jf {a:Expr}{ta:TA}{p pos:Pos} (hg:Gl X "range") (hm:X.mg "range"=none) (ha:PA X [a] ta) (hs:starEach [a] X.env=[(false,eval a X.env)]:=by rfl):PI X tg (.Call (.Name "range" p) [a] [] pos) (Zlk ta):=by
 intro pins s σ H R I h
 refine Call_ (Zb6 I hg hm boot_range (PyProof.Rows.callWith_type1 (thn (ha pos pins s σ H _ I h) fun us s1 ⟨vs,H1,I1,r1,q1⟩=>?_) hs rfl))
 obtain⟨j,e,q1,q2,q⟩:=q1
 subst e
 cases r1 with
 |cons r rr =>
  cases rr
  obtain⟨t,rfl⟩:=r
  exact call_range_1 (Zdo I1 (by omega) (by omega) q1 q2 (by simpa using q))
theorem Zbt {a b:Expr}{ta:TA}{p pos:Pos} (hg:Gl X "range") (hm:X.mg "range"=none) (ha:PA X [a,b] ta) (hs:starEach [a,b] X.env=[(false,eval a X.env),(false,eval b X.env)]:=by rfl) (hs2:starEach [b] X.env=[(false,eval b X.env)]:=by rfl) :
  PI X tg (.Call (.Name "range" p) [a,b] [] pos) (Zlj ta):=by
 intro pins s σ H R I h
 refine Call_ (Zb6 I hg hm boot_range (PyProof.Rows.callWith_type1 (thn (ha pos pins s σ H _ I h) fun us s1 ⟨vs,H1,I1,r1,q1⟩=>?_) (by rw[hs,hs2]) (by rw[hs2];rfl)))
 obtain⟨i,j,e,⟨q1,q2,q3,q4⟩,q⟩:=q1
 subst e
 cases r1 with
 |cons r rr =>
  cases rr with
  |cons r' rr =>
   cases rr
   obtain⟨t,rfl⟩:=r
   obtain⟨t',rfl⟩:=r'
   exact call_range_2 (Zdo I1 q1 q2 q3 q4 q)
noncomputable def Zmk (wi:TI) (g:TG) (tb:TS):TS:=fun D σ H=>wi σ H fun J H1=>∃W:Nat->Nat->St->Hp->Prop,(∃m,W 0 m σ H1)/\∀i m σ H,W i m σ H ->
 (J.stop i H/\D.nx σ H)\/(J.go i H/\∃N:St->Hp->Prop,(∀σ' H',N σ' H'->∃m',m'<m/\W (i+1) m' σ' H')/\∀x H',J.yld i H x H'->g x σ H' fun σ2 H2=>tb { D with nx:=N,ct:=N,bk:=D.nx } σ2 H2)
noncomputable def Zds (fp:List Addr) (h:Heap):List (Addr×Obj):=fp.filterMap fun b=>(h.get? b).map fun o=>(b,o)
theorem JK {fp:List Addr}{h:Heap}{b:Addr}{o:Obj} (hb:b∈fp) (e:h.get? b=some o):(b,o)∈Zds fp h:=ZuP.mpr ⟨b,hb,by rw[e];rfl⟩
theorem Zf0 {fp:List Addr}{h:Heap}{p:Addr×Obj} (hp:p∈Zds fp h):p.1∈fp/\h.get? p.1=some p.2:=by
 obtain⟨b,hb,e⟩:=ZuP.mp hp
 cases q:h.get? b with
 |none=>rw[q] at e;cases e
 |some o =>
  rw[q] at e
  have e':(b,o)=p:=Option.some.inj e
  subst e'
  exact⟨hb,q⟩
theorem Inv.pinned {pins:List (Addr×Obj)}{σ:St}{H:Hp}{s:Shared}{fp:List Addr} (I:Inv X pins σ H s) (hf:∀b∈fp,ZhQ X pins H b) (ho:∀b∈fp,∃o,s.heap.get? b=some o/\∀v,o.data≠.cell v):Inv X (pins++Zds fp s.heap) σ H s:=
 I.pins_of fun p hp=>(ZsS.mp hp).elim (fun z=>I.pin p (ZsT _ z)) fun z=>by
  obtain⟨hb,e⟩:=Zf0 z
  obtain⟨f0,f1,f2,_⟩:=hf p.1 hb
  obtain⟨o,e',d⟩:=ho p.1 hb
  rw[e] at e';cases e'
  exact⟨e,f0,f1,f2,d⟩
theorem Inv.unpinned {pins pl:List (Addr×Obj)}{σ:St}{H:Hp}{s:Shared} (I:Inv X (pins++pl) σ H s):Inv X pins σ H s:=I.pins_of fun p hp=>I.pin p (ZsT _ (ZsW _ hp))
theorem Jt {iter:Expr}{body:List Stmt}{wi:TI}{g:TG}{tb:TS}{pos:Pos} (hp:PassesOwn (model X.prog X.w) X.A X.env X.xe) (hc:X.calm=true) (hi:PI X tg iter wi) (hg:PG X tg g) (hb:PSs X body tb)
  (hs:∀x,foldedSetIterable iter X.env x=pure x:=by exact fun _=>rfl):PS X (.For tg iter body [] pos) (Zmk wi g tb):=by
 intro pins s σ H D I h
 refine wpAny_For (thn (hi pins s σ H _ I h) fun v s1 h1=>thn h1 fun itv s2 h2=>?_) hs
 obtain⟨it,fp,tn,J,H2,e,I2,T,st2,f2,W,⟨m0,w0⟩,turn⟩:=h2
 subst e
 have stat:∀{H':Hp},(∀b∈fp,H' b=none)->∀b∈fp,ZhQ X pins H' b:=fun hn b hb=>⟨hn b hb,(f2 b hb).2⟩
 refine codeAny_forLoop_any (fun n s'=>∃i σ' H',Inv X pins σ' H' s'/\tn i s'.heap/\(∀b∈fp,H' b=none)/\W i n σ' H') ?_ m0 ⟨0,σ,H2,I2,st2,fun b hb=>(f2 b hb).1,w0⟩
 rintro n s3 ⟨i,σ3,H3,I3,st3,fr3,w3⟩
 rcases turn i n σ3 H3 w3 with ⟨stop,qn⟩|⟨go,N,hN,step⟩
 ·refine wpAny_passesOwn hp (thn (T.done X rfl rfl rfl hc i pins s3 σ3 H3 X.xe I3 (stat fr3) st3 stop) fun r s4 ⟨hr,I4⟩=>?_)
  subst hr
  exact wpAny_execs_nil ⟨σ3,H3,I4,qn⟩
 ·refine wpAny_passesOwn hp (thn (T.item X rfl rfl rfl hc i pins s3 σ3 H3 X.xe I3 (stat fr3) st3 go) fun r s4 ⟨u,hr,h4⟩=>?_)
  subst hr
  refine wpAny_passesOwn hp (thn h4 fun _ s5 ⟨x,H5,I5,r5,y5,st5,fr5⟩=>?_)
  have I5':=I5.pinned (stat fr5) (T.obj _ _ st5)
  refine wpAny_passesOwn hp (thn (hg _ s5 σ3 H5 x u _ I5' r5 (step x H5 y5)) fun _ s6 ⟨σ6,H6,I6,q6⟩=>?_)
  refine wpAny_passesOwn hp (thn (hb _ s6 σ6 H6 _ I6 q6) fun f s7 q7=>?_)
  have again:∀{σ7:St}{H7:Hp},Inv X (pins++Zds fp s5.heap) σ7 H7 s7->N σ7 H7->∃m,m<n/\∃i σ' H',Inv X pins σ' H' s7/\tn i s7.heap/\(∀b∈fp,H' b=none)/\W i m σ' H':=fun {σ7 H7} I7 n7=>by
   obtain⟨m',hm,w7⟩:=hN σ7 H7 n7
   refine⟨m',hm,i+1,σ7,H7,I7.unpinned,T.keep _ _ _ st5 fun b hb o e=>(I7.pin (b,o) (ZsT _ (ZsT _ (JK hb e)))).1,fun b hb=>?_,w7⟩
   obtain⟨o,e,d⟩:=T.obj _ _ st5 b hb
   exact(I7.pin (b,o) (ZsT _ (ZsT _ (JK hb e)))).2.1
  cases f with
  |next=>obtain⟨σ7,H7,I7,n7⟩:=q7;exact again I7 n7
  |cont=>obtain⟨σ7,H7,I7,n7⟩:=q7;exact again I7 n7
  |brk=>obtain⟨σ7,H7,I7,q7⟩:=q7;exact⟨σ7,H7,I7.unpinned,q7⟩
  |ret v=>obtain⟨x7,σ7,H7,I7,r7,q7⟩:=q7;exact⟨x7,σ7,H7,I7.unpinned,r7,q7⟩
end
noncomputable abbrev R2:=V->V->Hp->VK->Prop
def OpR (X:Cx) (f:Value->Value->Sem Value) (r:R2):Prop:=
 ∀(pins:List (Addr×Obj)) (s:Shared) (σ:St) (H:Hp) (x y:V) (v u:Value) (Q:VK),Inv X pins σ H s->Jo x v->Jo y u->r x y H Q ->
  wpAny (model X.prog X.w) X.A (f v u) (EP X pins σ Q) X.xe s
def UnR (X:Cx) (f:Value->Sem Value) (r:V->Hp->VK->Prop):Prop:=
 ∀(pins:List (Addr×Obj)) (s:Shared) (σ:St) (H:Hp) (x:V) (v:Value) (Q:VK),Inv X pins σ H s->Jo x v->r x H Q ->
  wpAny (model X.prog X.w) X.A (f v) (EP X pins σ Q) X.xe s
def JJ (X:Cx) (f:Value) (r:List V->Hp->VK->Prop):Prop:=
 ∀(pins:List (Addr×Obj)) (s:Shared) (σ:St) (H:Hp) (xs:List V) (us:List Value) (Q:VK),Inv X pins σ H s->ZX xs us->r xs H Q ->
  wpAny (model X.prog X.w) X.A (call f us) (EP X pins σ Q) X.xe s
noncomputable def tOp (r:R2) (ta tb:TE):TE:=fun σ H Q=>ta σ H fun x H1=>tb σ H1 fun y H2=>r x y H2 Q
noncomputable def tUn (r:V->Hp->VK->Prop) (ta:TE):TE:=fun σ H Q=>ta σ H fun x H1=>r x H1 Q
noncomputable def rI (C:Int->Int->Prop) (g:Int->Int->V):R2:=fun x y H Q=>∃i j,x=.int i/\y=.int j/\C i j/\Q (g i j) H
noncomputable def rI0 (g:Int->Int->V):R2:=fun x y H Q=>∃i j,x=.int i/\y=.int j/\Q (g i j) H
def rU (g:Int->V):V->Hp->VK->Prop:=fun x H Q=>∃i,x=.int i/\Q (g i) H
section
variable {X:Cx}{a b:Expr}{ta tb:TE}{pos:Pos}
theorem ZmC (ha:PE X a ta) (hb:PE X b tb) {pins:List (Addr×Obj)}{s:Shared}{σ:St}{H:Hp}{R:V->V->Hp->Prop} (I:Inv X pins σ H s)
  (h:ta σ H fun x H1=>tb σ H1 fun y H2=>R x y H2) {Q:Value->Shared->Prop}{f:Value->Value->Sem Value}
  (hf:∀v u s2 x y H2,Inv X pins σ H2 s2->Jo x v->Jo y u->R x y H2->wpAny (model X.prog X.w) X.A (f v u) Q X.xe s2) :
  wpAny (model X.prog X.w) X.A (eval a X.env) (fun v s₁=>wpAny (model X.prog X.w) X.A (eval b X.env) (fun u s₂=>wpAny (model X.prog X.w) X.A (f v u) Q X.xe s₂) X.xe s₁) X.xe s:=by
 refine thn (ha pins s σ H _ I h) fun v s1 ⟨x,H1,I1,r1,q1⟩=>?_
 refine thn (hb pins s1 σ H1 _ I1 q1) fun u s2 ⟨y,H2,I2,r2,q2⟩=>?_
 exact hf v u s2 x y H2 I2 r1 r2 q2
theorem Z6 {op:Operator}{r:R2} (ho:OpR X (binaryOp op) r) (ha:PE X a ta) (hb:PE X b tb):PE X (.BinOp a op b pos) (tOp r ta tb):=by
 intro pins s σ H Q I h
 exact wpAny_BinOp (ZmC ha hb I h fun v u s2 x y H2 I2 rx ry q=>ho pins s2 σ H2 x y v u Q I2 rx ry q)
theorem Zk6 {op:UnaryOp}{r:V->Hp->VK->Prop} (ho:UnR X (unaryOp op) r) (ha:PE X a ta):PE X (.UnaryOp op a pos) (tUn r ta):=by
 intro pins s σ H Q I h
 exact UnaryOp_ (thn (ha pins s σ H _ I h) fun v s1 ⟨x,H1,I1,r1,q1⟩=>ho pins s1 σ H1 x v Q I1 r1 q1)
theorem opI {f:Value->Value->Sem Value}{C:Int->Int->Prop}{g:Int->Int->Int}
  (rule:∀(i j:Int) (t u:Tok) (s:Shared) (Q:Value->Shared->Prop) (E:Value->Shared->Prop),C i j->Q (.int (g i j) s.toks) { s with toks:=s.toks+1 }->wpAny (model X.prog X.w) X.A (f (.int i t) (.int j u)) Q E s) :
  OpR X f (rI C fun i j=>.int (g i j)):=by
 intro pins s σ H x y v u Q I rx ry h
 obtain⟨i,j,rfl,rfl,hc,q⟩:=h
 obtain⟨t,rfl⟩:=rx
 obtain⟨t',rfl⟩:=ry
 exact rule i j t t' s _ _ hc ⟨.int (g i j),H,I.tok _,⟨_,rfl⟩,q⟩
theorem ZmS {f:Value->Value->Sem Value}{g:Int->Int->Int}
  (rule:∀(i j:Int) (t u:Tok) (s:Shared) (Q:Value->Shared->Prop) (E:Value->Shared->Prop),Q (.int (g i j) s.toks) { s with toks:=s.toks+1 }->wpAny (model X.prog X.w) X.A (f (.int i t) (.int j u)) Q E s) :
  OpR X f (rI0 fun i j=>.int (g i j)):=by
 intro pins s σ H x y v u Q I rx ry h
 obtain⟨i,j,rfl,rfl,q⟩:=h
 obtain⟨t,rfl⟩:=rx
 obtain⟨t',rfl⟩:=ry
 exact rule i j t t' s _ _ ⟨.int (g i j),H,I.tok _,⟨_,rfl⟩,q⟩
theorem ZlU {f:Value->Value->Sem Value}{g:Int->Int->Bool}
  (rule:∀(i j:Int) (t u:Tok) (s:Shared) (Q:Value->Shared->Prop) (E:Value->Shared->Prop),Q (.bool (g i j)) s->wpAny (model X.prog X.w) X.A (f (.int i t) (.int j u)) Q E s) :
  OpR X f (rI0 fun i j=>.bl (g i j)):=by
 intro pins s σ H x y v u Q I rx ry h
 obtain⟨i,j,rfl,rfl,q⟩:=h
 obtain⟨t,rfl⟩:=rx
 obtain⟨t',rfl⟩:=ry
 exact rule i j t t' s _ _ ⟨.bl (g i j),H,I,rfl,q⟩
def ZjZ (i j:Int):Prop:=0<=j/\j<=1000000/\i.natAbs<2^64
theorem J6:OpR X (binaryOp .Add) (rI0 fun i j=>.int (i+j)):=ZmS fun _ _ _ _ _ _ _ q=>add_int q
theorem Zfw:OpR X (binaryOp .Sub) (rI0 fun i j=>.int (i-j)):=ZmS fun _ _ _ _ _ _ _ q=>sub_int q
theorem Jg:OpR X (binaryOp .Mod) (rI (fun _ j=>0<j) fun i j=>.int (i%j)):=opI fun i j _ _ _ _ _ hc q=>by
 have h1:(0:Int)<j:=hc
 exact mod_int' (by omega) (by rw[Int.fmod_eq_emod_of_nonneg i (by omega)];exact q)
theorem Zb2:OpR X (binaryOp .Pow) (rI ZjZ fun i j=>.int (i^j.toNat)):=opI fun _ _ _ _ _ _ _ hc q=>pow_int_small hc.1 hc.2.1 hc.2.2 q
theorem unI {f:Value->Sem Value}{g:Int->Int}
  (rule:∀(i:Int) (t:Tok) (s:Shared) (Q:Value->Shared->Prop) (E:Value->Shared->Prop),Q (.int (g i) s.toks) { s with toks:=s.toks+1 }->wpAny (model X.prog X.w) X.A (f (.int i t)) Q E s) :
  UnR X f (rU fun i=>.int (g i)):=by
 intro pins s σ H x v Q I rx h
 obtain⟨i,rfl,q⟩:=h
 obtain⟨t,rfl⟩:=rx
 exact rule i t s _ _ ⟨.int (g i),H,I.tok _,⟨_,rfl⟩,q⟩
theorem ZhT:UnR X (unaryOp .USub) (rU fun i=>.int (-i)):=unI fun _ _ _ _ _ q=>neg_int q
variable {c:Expr}{tc:TE}
theorem Zls {pins:List (Addr×Obj)}{σ:St}{H:Hp}{s:Shared}{Q:VK}{k k':Bool} (I:Inv X pins σ H s) (q:Q (.bl k) H) (e:k=k'):EP X pins σ Q (.bool k') s:=by
 subst e
 exact⟨.bl k,H,I,rfl,q⟩
theorem Zeo:OpR X (compareOp .Lt) (rI0 fun i j=>.bl (decide (i<j))):=ZlU fun _ _ _ _ _ _ _ q=>lt_int q
theorem ZkR:OpR X (compareOp .LtE) (rI0 fun i j=>.bl (decide (i<=j))):=ZlU fun _ _ _ _ _ _ _ q=>le_int q
theorem Zhi:OpR X (compareOp .Gt) (rI0 fun i j=>.bl (decide (j<i))):=ZlU fun _ _ _ _ _ _ _ q=>gt_int q
theorem Zm0:OpR X (compareOp .GtE) (rI0 fun i j=>.bl (decide (j<=i))):=ZlU fun _ _ _ _ _ _ _ q=>ge_int q
theorem ZiX:OpR X (compareOp .IsNot) (fun x y H Q=>y=.non/\Q (.bl (!decide (x=.non))) H):=by
 intro pins s σ H x y v u Q I rx ry h
 obtain⟨rfl,q⟩:=h
 cases ry
 refine isnot_none_gen (Zls I q ?_)
 cases x<;>first
  |(cases rx;rfl)
  |(obtain⟨t,rfl⟩:=rx;rfl)
theorem ZK (b:Expr) {op:CmpOp} (h:op≠.In:=by decide) (h2:op≠.NotIn:=by decide):behindInMarks op b=false:=by
 have e1:(op==CmpOp.In)=false:=by cases op<;>first|rfl|exact absurd rfl h
 have e2:(op==CmpOp.NotIn)=false:=by cases op<;>first|rfl|exact absurd rfl h2
 cases b<;>simp[behindInMarks,e1,e2]
theorem UO {op:CmpOp}{r:R2} (ho:OpR X (compareOp op) r) (ha:PE X a ta) (hb:PE X b tb) (hm:behindInMarks op b=false):PE X (.Compare a [op] [b] pos) (tOp r ta tb):=by
 intro pins s σ H Q I h
 exact wpAny_Compare1 (ZmC ha hb I h fun v u s2 x y H2 I2 rx ry q=>ho pins s2 σ H2 x y v u Q I2 rx ry q) hm
noncomputable def Zi7 (t:TE):TT:=fun σ H Q=>t σ H fun x H'=>∃k,x=.bl k/\Q k H'
theorem Z9 {op:CmpOp}{r:R2} (ho:OpR X (compareOp op) r) (ha:PE X a ta) (hb:PE X b tb) (hm:behindInMarks op b=false):PT X (.Compare a [op] [b] pos) (Zi7 (tOp r ta tb)):=by
 intro pins s σ H Q I h
 refine wpAny_isTrue_Compare1 (thn (ha pins s σ H _ I h) fun v s1 ⟨x,H1,I1,r1,q1⟩=>thn (hb pins s1 σ H1 _ I1 q1) fun u s2 ⟨y,H2,I2,r2,q2⟩ =>
  thn (ho pins s2 σ H2 x y v u _ I2 r1 r2 q2) fun c s3 ⟨z,H3,I3,r3,k,e,q3⟩=>?_) hm
 subst e
 cases r3
 exact wpAny_truthy_bool ⟨H3,I3,q3⟩
noncomputable def ZhY (r r':R2) (ta tb tc:TE):TE:=fun σ H Q=>ta σ H fun x H1=>tb σ H1 fun y H2=>r x y H2 fun z H3=>∃k,z=.bl k /\
 (if k=true then tc σ H3 fun w' H4=>r' y w' H4 Q else Q (.bl false) H3)
theorem ZgQ {op op':CmpOp}{r r':R2} (ho:OpR X (compareOp op) r) (ho':OpR X (compareOp op') r') (ha:PE X a ta) (hb:PE X b tb) (hc:PE X c tc)
  (hm:lastMarks [op,op'] [b,c]=false:=by with_unfolding_all rfl):PT X (.Compare a [op,op'] [b,c] pos) (Zi7 (ZhY r r' ta tb tc)):=by
 intro pins s σ H Q I h
 refine isTrue_chain (thn (ha pins s σ H _ I h) fun v s1 ⟨x,H1,I1,r1,q1⟩=>test_link (thn (hb pins s1 σ H1 _ I1 q1) fun u s2 ⟨y,H2,I2,r2,q2⟩ =>
  thn (ho pins s2 σ H2 x y v u _ I2 r1 r2 q2) fun d s3 ⟨z,H3,I3,r3,k,e,q3⟩=>?_)) hm
 subst e
 cases r3
 refine wpAny_truthy_bool ?_
 cases k with
 |false =>
  obtain⟨k',e',q'⟩:=q3
  cases e'
  exact ite_ff ⟨H3,I3,q'⟩
 |true =>
  refine ite_tt (test_last (thn (hc pins s3 σ H3 _ I3 q3) fun w' s4 ⟨z',H4,I4,r4,q4⟩=>thn (ho' pins s4 σ H4 y z' u w' _ I4 r2 r4 q4) fun d' s5 ⟨z2,H5,I5,r5,k2,e2,q5⟩=>?_))
  subst e2
  cases r5
  exact wpAny_truthy_bool ⟨H5,I5,q5⟩
theorem Zaq:(sizeLine:Nat)<2^63:=by rw[sizeLine_eq];decide
theorem QY {x:V}{us:List Value} (r:ZX [x] us):∃u,us=[u]/\Jo x u:=by
 cases r with
 |cons r1 r2=>cases r2;exact⟨_,rfl,r1⟩
theorem Zkd {x y:V}{us:List Value} (r:ZX [x,y] us):∃u w',us=[u,w']/\Jo x u/\Jo y w':=by
 cases r with
 |cons r1 r2 =>
  cases r2 with
  |cons r3 r4=>cases r4;exact⟨_,_,rfl,r1,r3⟩
theorem Zgu (hc:X.calm=true):JJ X (.builtin "max") (fun xs H Q=>∃i j,xs=[.int i,.int j]/\Q (.int (if j>i then j else i)) H):=by
 intro pins s σ H xs us Q I r h
 obtain⟨i,j,rfl,q⟩:=h
 obtain⟨u,w',rfl,⟨t,rfl⟩,⟨t',rfl⟩⟩:=Zkd r
 refine max_two_ints (I.ok.hd hc) fun h' tk k=>⟨_,H,I.kept k, ?_,q⟩
 by_cases hj:j>i
 ·rw[if_pos hj,if_pos hj];exact⟨_,rfl⟩
 ·rw[if_neg hj,if_neg hj];exact⟨_,rfl⟩
theorem Zgw:JJ X (.type "int") (fun xs H Q=>(∃i,xs=[.int i]/\Q (.int i) H)\/∃k,xs=[.bl k]/\Q (.int (if k then 1 else 0)) H):=by
 intro pins s σ H xs us Q I r h
 rcases h with ⟨i,rfl,q⟩|⟨k,rfl,q⟩
 ·obtain⟨u,rfl,t,rfl⟩:=QY r
  exact call_int_int ⟨.int i,H,I,⟨_,rfl⟩,q⟩
 ·obtain⟨u,rfl,r1⟩:=QY r
  cases r1
  exact call_int_bool ⟨.int (if k then 1 else 0),H,I.tok _,⟨_,rfl⟩,q⟩
end
theorem Zg9.some_of {v:V}{o:Option Value} (r:Zg9 (some v) o):∃u,o=some u/\Jo v u:=by
 cases o with
 |none=>exact(show False from r).elim
 |some u=>exact⟨u,rfl,r⟩
section
end
structure Cls (K:PySem.W.Frag) (C:Addr):Prop where
 pg:PySem.W.plainGet K C Str.empty=true
 hd:PySem.W.hasDictIn K C=true
 po:PySem.W.plainOver K C=true
 sa:PySem.W.findIn K (.ref C) "__setattr__"=some (some (.builtin "object.__setattr__"))
section
end
structure Qc (k:Nat) (A:Around):Prop where
 hd:A.handled=none
 dp:A.depth+3*k+5<recursionLimit
 un:A.units+16*k+200<cLine
theorem Qc.mono {j k:Nat}{A:Around} (r:Qc k A) (h:j<=k):Qc j A:=⟨r.hd,by have:=r.dp;omega,by have:=r.un;omega⟩
theorem Qc.deeper {k:Nat}{A:Around} (r:Qc (k+1) A) (env:Env):Qc k (A.deeper env):=
 ⟨r.hd,by have:=r.dp;show A.depth+1+3*k+5<_;omega,by have:=r.un;show A.units+3+16*k+200<_;omega⟩
theorem Qc.depth {k:Nat}{A:Around} (r:Qc k A):A.depth<recursionLimit:=by have:=r.dp;omega
theorem Qc.units {k:Nat}{A:Around} (r:Qc k A):A.units+64<cLine:=by have:=r.un;omega
noncomputable def Zbe:TA:=fun _ H Q=>Q [] H
noncomputable def VX (ta:TE) (tr:TA):TA:=fun σ H Q=>ta σ H fun x H1=>tr σ H1 fun xs H2=>Q (x::xs) H2
section
variable {X:Cx}{e:Expr}{es:List Expr}{te:TE}{t:TA}{pos:Pos}
theorem Ze:PA X [] Zbe:=fun _ _ _ _ H Q I h=>Calls.spliced_nil ⟨[],H,I,.nil,h⟩
theorem Za (ha:PE X e te) (hr:PA X es t) (hs:starEach (e::es) X.env=(false,eval e X.env)::starEach es X.env:=by rfl):PA X (e::es) (VX te t):=by
 intro pos pins s σ H Q I h
 rw[hs]
 show wpAny _ _ (spliced ((false,eval e X.env)::backTo pos (starEach es X.env))) _ _ s
 refine Calls.spliced_cons (thn (ha pins s σ H _ I h) fun u s1 ⟨x,H1,I1,r1,q1⟩=>?_)
 exact thn (hr pos pins s1 σ H1 _ I1 q1) fun us s2 ⟨xs,H2,I2,r2,q2⟩=>⟨x::xs,H2,I2,.cons r1 r2,q2⟩
noncomputable def Zmi (t:TA):TE:=fun σ H Q=>t σ H fun xs H1=>xs.length<=sizeLine/\∀p,H1 p=none->Q (.ref p) (upd H1 p (.tup xs))
noncomputable def Zkk (t:TA):TE:=fun σ H Q=>t σ H fun xs H1=>xs.length<=sizeLine/\∀p,H1 p=none->Q (.ref p) (upd H1 p (.lst xs))
theorem Uy {x1} (h:PA X es t):PE X (.Tuple es x1 pos) (Zmi t):=by
 intro pins s σ H Q I hq
 refine wpAny_Tuple_spliced (thn (h pos pins s σ H _ I hq) fun us s1 ⟨xs,H1,I1,r,z,q⟩=>⟨by rw[<- r.length];exact z, ?_⟩)
 have hf:H1 s1.heap.objs.size=none:=I1.hok.fresh (ZsU _)
 refine⟨.ref s1.heap.objs.size,upd H1 s1.heap.objs.size (.tup xs),I1.laid (t':=s1.toks) (fun b u e=>Heap.get?_push_of_some _ e) (ZsU _) ?_,rfl,q _ hf⟩
 exact⟨z,us,r,⟨_,Heap.get?_push_size _ rfl,rfl,_,rfl⟩⟩
theorem JV (h:PA X es t):PE X (.List es pos) (Zkk t):=by
 intro pins s σ H Q I hq
 refine wpAny_List_spliced (thn (h pos pins s σ H _ I hq) fun us s1 ⟨xs,H1,I1,r,z,q⟩=>⟨by rw[<- r.length];exact z, ?_⟩)
 have hf:H1 s1.heap.objs.size=none:=I1.hok.fresh (ZsU _)
 refine⟨.ref s1.heap.objs.size,upd H1 s1.heap.objs.size (.lst xs),I1.laid (t':=s1.toks) (fun b u e=>Heap.get?_push_of_some _ e) (ZsU _) ?_,rfl,q _ hf⟩
 exact⟨z,us,0,r,Heap.get?_push_size _ rfl⟩
end
noncomputable abbrev Sp:=List V->Hp->VK->XK->Prop
noncomputable abbrev CXT:=List Env->Hp->Shared->XK->Value->Shared->Prop
structure ZlZ (P:Program) (w:World) (K:PySem.W.Frag) (mg:Str->Option Value) (base:Heap) (A:Around) (outer:List Env) (s:Shared) (H:Hp):Prop where
 frames:A.frames=some outer
 mod:Mod K mg base
 bs:∀b o,base.get? b=some o->s.heap.get? b=some o/\H b=none
 bsz:base.objs.size<=s.heap.objs.size
 funs:s.heap.FunFrames base outer
 frf:∀b∈frs outer,H b=none
 hok:HOk P w H s.heap
 bare:AllBare s.gens
def CE (outer:List Env) (P:Program) (w:World) (H:Hp) (s:Shared) (Q:VK) (u:Value) (s':Shared):Prop:=
 ∃v H',s'.os=s.os/\AllBare s'.gens/\Un (frs outer) [] H H' s.heap s'.heap/\HOk P w H' s'.heap/\Jo v u/\Q v H'
def CR (CX:CXT) (outer:List Env) (P:Program) (w:World) (H:Hp) (s:Shared) (Q:VK) (E:XK) (r:Result) (s':Shared):Prop:=
 match r with
 |.ok (.ret u)=>CE outer P w H s Q u s'
 |.ok _=>False
 |.error e=>CX outer H s E e s'
structure JT (P:Program) (w:World) (K:PySem.W.Frag) (mg:Str->Option Value) (base:Heap) (CX:CXT) (k:Nat) (f:Addr) (fd:FuncData) (ps:List Str) (sp:Sp):Prop where
 len:∀vs H Q E,sp vs H Q E->vs.length=ps.length
 run:∀(A:Around) (outer:List Env) (s:Shared) (H:Hp) (args:Args) (us:List Value) (vs:List V) (Q:VK) (E:XK),Qc k A->ZlZ P w K mg base A outer s H->BindsTo s fd args (ps.zip us)->ZX vs us->sp vs H Q E ->
  codeAny (model P w) A (.call (.ref f) args) (CR CX outer P w H s Q E) s
section
variable {X:Cx}{pins:List (Addr×Obj)}{σ:St}{H:Hp}{s s':Shared}
theorem Inv.env0 (I:Inv X pins σ H s):ZlZ X.prog X.w X.K X.mg X.base X.A X.stack s H:=
 ⟨I.ok.frames,I.ok.mod,I.bs,Ztu I.ok.bsz I.sz,I.stack,I.stkFree,I.hok,I.bare⟩
theorem Inv.after {Q:VK}{u:Value} (I:Inv X pins σ H s) (h:CE X.stack X.prog X.w H s Q u s'):EP X pins σ Q u s':=by
 obtain⟨v,H',os,bare,un,hok,r,q⟩:=h
 obtain⟨hh,g,d,t,os'⟩:=s'
 obtain rfl:os'=s.os:=os
 exact⟨v,H',I.call (h':=hh) (g':=g) (d':=d) (t':=t) (ch:=[]) un hok bare (fun b z=>absurd z (by simp)),r,q⟩
end
noncomputable def Zkn (sp:Sp) (dvs:List V) (E:XK) (t:TA):TE:=fun σ H Q=>t σ H fun vs H1=>sp (vs++dvs) H1 Q E
def ZbV (K:W.Frag) (fd:FuncData) (ps:List Str) (ds:List Value):Prop:=
 ∀(s:Shared) (us:List Value),K.In s.heap->(us++ds).length=ps.length->BindsTo s fd ⟨us,[]⟩ (ps.zip (us++ds))
theorem ZbV.all {K:W.Frag}{fd:FuncData}{ps:List Str} (h:∀us:List Value,us.length=ps.length->bindArgs fd ⟨us,[]⟩=pure (ps.zip us)):ZbV K fd ps []:=fun s us _ hl=>by
 rw[ZtS] at hl ⊢
 exact .of_eq (h us hl)
def ZdY (CX:CXT) (X:Cx) (E:XK):Prop:=∀(pins:List (Addr×Obj)) (σ:St) (H:Hp) (s:Shared) (e:Value) (s':Shared),Inv X pins σ H s->CX X.stack H s E e s'->X.xe e s'
section
variable {X:Cx}{CX:CXT}{k:Nat}{f:Addr}{fd:FuncData}{ps:List Str}{sp:Sp}{dvs:List V}{ds:List Value}{E:XK}{x:Str}{p pos:Pos}{e:Expr}{es:List Expr}{t:TA}
theorem Zia {pins:List (Addr×Obj)}{σ:St}{H:Hp}{s:Shared}{Q:VK}{us:List Value}{vs:List V} (F:JT X.prog X.w X.K X.mg X.base CX k f fd ps sp) (hr:Qc k X.A) (hb:ZbV X.K fd ps ds) (hd:ZX dvs ds) (hx:ZdY CX X E)
  (I:Inv X pins σ H s) (r:ZX vs us) (h:sp (vs++dvs) H Q E):wpAny (model X.prog X.w) X.A (call (.ref f) us) (EP X pins σ Q) X.xe s:=by
 have r2:ZX (vs++dvs) (us++ds):=r.append hd
 have hl:(us++ds).length=ps.length:=by rw[<- r2.length];exact F.len _ _ _ _ h
 refine wpAny_call (codeAny_mono (F.run X.A X.stack s H ⟨us,[]⟩ (us++ds) (vs++dvs) Q E hr I.env0 (hb s us I.kIn hl) r2 h) fun r s' hq=>?_)
 cases r with
 |error e=>exact hx pins σ H s e s' I hq
 |ok fl =>
  cases fl with
  |ret u=>exact I.after hq
  |next=>exact False.elim hq
  |brk=>exact False.elim hq
  |cont=>exact False.elim hq
theorem ZiO (F:JT X.prog X.w X.K X.mg X.base CX k f fd ps sp) (hr:Qc k X.A) (hg:Gl X x) (hm:X.mg x=some (.ref f)) (hk:PySem.W.keepIn X.K (.ref f)=true) (hb:ZbV X.K fd ps ds) (hd:ZX dvs ds) (hx:ZdY CX X E)
  (ha:PA X (e::es) t) (hdb:(x==("__debug__":Str))=false:=by decide) (he:starEach (e::es) X.env=(false,eval e X.env)::starEach es X.env:=by rfl) (hpl:(backTo pos (starEach es X.env)).any (·.1)=false:=by rfl) :
  PE X (.Call (.Name x p) (e::es) [] pos) (Zkn sp dvs E t):=by
 intro pins s σ H Q I h
 refine wpAny_Call_Name_kw (QM I hg hm ?_ hdb)
 refine PySem.W.callWith_K (h₀:=X.base) I.ok.mod.kin hk (thn (ha pos pins s σ H _ I h) fun us s1 ⟨vs,H1,I1,r,q⟩=>⟨I1.kIn, ?_⟩) he hpl
 exact Zia F hr hb hd hx I1 r q
theorem ZgT (F:JT X.prog X.w X.K X.mg X.base CX k f fd ps sp) (hr:Qc k X.A) (hg:Gl X x) (hm:X.mg x=some (.ref f)) (hk:PySem.W.keepIn X.K (.ref f)=true) (hb:ZbV X.K fd ps ds) (hd:ZX dvs ds) (hx:ZdY CX X E)
  (hdb:(x==("__debug__":Str))=false:=by decide):PE X (.Call (.Name x p) [] [] pos) (Zkn sp dvs E Zbe):=by
 intro pins s σ H Q I h
 refine wpAny_Call_Name_kw (QM I hg hm ?_ hdb)
 exact PySem.W.callWith_K0 I.kIn hk (Zia (us:=[]) F hr hb hd hx I .nil h)
end
structure Zx (N P:List Str) (sc:Scope):Prop where
 kind:sc.kind=.function
 co:sc.isCoroutine=false
 gen:sc.isGenerator=false
 nd:N.Nodup
 pre:N.take P.length=P
 par:∀x∈P,sc.names.lookup x=some .local\/sc.names.lookup x=some .cell
 nofree:∀y∈sc.names,y.2≠.free
theorem ZbQ {kindOf:Str->Option NameKind}{x:Str}:∀{binds:List (Str×Value)}{m:Str->Option Value},(∀v,(x,v) ∉ binds)->bindL kindOf binds m x=m x
 |[],_,_=>rfl
 |(n,v)::r,m,h=>by
  unfold bindL
  rw[ZbQ fun w hw=>h w (Ztx _ hw)]
  split
  ·have:x≠n:=by rintro rfl;exact h v ZtG
   simp[this]
  ·rfl
theorem ZbS {kindOf:Str->Option NameKind}{x:Str}:∀{binds:List (Str×Value)}{m:Str->Option Value},(∀v,(x,v) ∉ binds)->bindC kindOf binds m x=m x
 |[],_,_=>rfl
 |(n,v)::r,m,h=>by
  unfold bindC
  rw[ZbS fun w hw=>h w (Ztx _ hw)]
  split
  ·rfl
  ·have:x≠n:=by rintro rfl;exact h v ZtG
   simp[this]
theorem ZbR {kindOf:Str->Option NameKind}{x:Str}{v:Value}:∀{P:List Str}{vs:List Value}{i:Nat}{m:Str->Option Value},P.Nodup->P[i]?=some x->vs[i]?=some v->kindOf x=some .local ->
  bindL kindOf (P.zip vs) m x=some v
 |[],_,_,_,_,h,_,_=>by simp at h
 |_::_,[],_,_,_,_,h,_=>by simp at h
 |p::P,w::vs,0,m,nd,h1,h2,hk=>by
  simp at h1 h2;subst h1;subst h2
  show bindL kindOf ((p,w)::P.zip vs) m p=_
  unfold bindL
  rw[ZbQ fun v hv=>(Zuh.mp nd).1 (ZuX hv).1,if_pos hk]
  simp
 |p::P,w::vs,i+1,m,nd,h1,h2,hk=>by
  show bindL kindOf ((p,w)::P.zip vs) m x=_
  unfold bindL
  exact ZbR (i:=i) (Zuh.mp nd).2 (by simpa using h1) (by simpa using h2) hk
theorem ZbT {kindOf:Str->Option NameKind}{x:Str}{v:Value}:∀{P:List Str}{vs:List Value}{i:Nat}{m:Str->Option Value},P.Nodup->P[i]?=some x->vs[i]?=some v->kindOf x≠some .local ->
  bindC kindOf (P.zip vs) m x=some v
 |[],_,_,_,_,h,_,_=>by simp at h
 |_::_,[],_,_,_,_,h,_=>by simp at h
 |p::P,w::vs,0,m,nd,h1,h2,hk=>by
  simp at h1 h2;subst h1;subst h2
  show bindC kindOf ((p,w)::P.zip vs) m p=_
  unfold bindC
  rw[ZbS fun v hv=>(Zuh.mp nd).1 (ZuX hv).1,if_neg hk]
  simp
 |p::P,w::vs,i+1,m,nd,h1,h2,hk=>by
  show bindC kindOf ((p,w)::P.zip vs) m x=_
  unfold bindC
  exact ZbT (i:=i) (Zuh.mp nd).2 (by simpa using h1) (by simpa using h2) hk
noncomputable def VY (N:List Str) (vs:List V):St:=vs.map some++List.replicate (N.length-vs.length) none
noncomputable def Zbg (CX:CXT) (P:Program) (w:World) (K:W.Frag) (mg:Str->Option Value) (base:Heap) (N:List Str) (qual:Str) (scope:Scope) (f:Addr) (cd:Value) (A:Around) (outer:List Env) (s:Shared) (H:Hp) (E:XK):Cx where
 prog:=P
 w:=w
 K:=K
 mg:=mg
 base:=base
 A:=A.deeper (envOfC qual scope s.heap.objs.size f cd)
 N:=N
 s₀:=s
 H₀:=H
 env:=envOfC qual scope s.heap.objs.size f cd
 outer:=outer
 stack:=envOfC qual scope s.heap.objs.size f cd::outer
 ex:=[]
 calm:=true
 fn:=fun _=>true
 pn:=[]
 xe:=fun e s'=>wpAny (model P w) (A.deeper (envOfC qual scope s.heap.objs.size f cd)) (leaving (envOfC qual scope s.heap.objs.size f cd) e) (fun _ s''=>CX outer H s E e s'') (fun e' s''=>CX outer H s E e' s'') s'
theorem ZdS {sc:Scope}{n:Nat}{x:Str} (h:sc.names.lookup x=some .cell):∃c,(cellsFrom n sc.names []).lookup x=some c:=by
 have q:=PySem.W.cellsFrom_some sc.names n [] (.inl h)
 exact Option.isSome_iff_exists.mp q
theorem ZfJ {CX:CXT}{P:Program}{w:World}{K:W.Frag}{mg:Str->Option Value}{base:Heap}{N ps:List Str}{qual:Str}{scope:Scope}{f:Addr}{cd:Value}{A:Around}{outer:List Env}{s s1:Shared}{H:Hp}{E:XK}{us:List Value}{vs:List V}
  (S:Zx N ps scope) (hd:A.handled=none) (e0:ZlZ P w K mg base A outer s H) (hl:vs.length=ps.length) (r:ZX vs us)
  (x:InCallC s s.heap.objs.size (bindL (envOfC qual scope s.heap.objs.size f cd).kindOf (ps.zip us) fun _=>none) (cellsFrom (s.heap.objs.size+1) scope.names []) (bindC (envOfC qual scope s.heap.objs.size f cd).kindOf (ps.zip us) fun _=>none) s1) :
  Inv (Zbg CX P w K mg base N qual scope f cd A outer s H E) [] (VY N vs) H s1:=by
 have hpl:ps.length<=N.length:=by have:=congrArg List.length S.pre;rw[Ztk] at this;omega
 obtain⟨h1,tk,rfl,hk⟩:=x.done
 have noA:∀b:Addr,b ∉ (Zbg CX P w K mg base N qual scope f cd A outer s H E).ex:=fun b z=>absurd (show b∈([]:List Addr) from z) (by simp)
 refine⟨⟨e0.mod,S.kind,rfl,rfl,ZsU _,fun y z c h1 h2=>?_,fun y hy=>?_,fun y c _ h=>?_,fun _=>hd,Around.frames_deeper e0.frames,.inr ⟨rfl,rfl⟩,fun b z=>absurd z (noA b),e0.bs,e0.bsz,fun b _ _=>noA b,fun b z=>absurd z (noA b),e0.funs,e0.frf⟩,
  rfl,e0.bare,Un.kept hk,⟨_,x.toInCall.ns,fun i y v h1 h2 h3=>?_⟩,fun y c h=>⟨_,x.cell y c h⟩,e0.hok.fresh (ZsU _),fun y c h=>?_,fun p hp=>absurd (show p∈([]:List (Addr×Obj)) from hp) (by simp),e0.hok.kept hk, ?_⟩
 ·exact name_of_addr x.apart (PySem.mem_of_lookup h1) (PySem.mem_of_lookup h2)
 ·have hy:scope.names.lookup y=some .cell\/scope.names.lookup y=some .free:=hy
  rcases hy with hy|hy
  ·exact ZdS hy
  ·exact absurd rfl (S.nofree _ (PySem.mem_of_lookup hy))
 ·exact Nat.le_of_lt (x.above y c (PySem.mem_of_lookup h))
 ·have hi:i<vs.length:=by
   unfold VY at h2
   by_cases hi:i<vs.length
   ·exact hi
   ·rw[ZsY (by simpa using hi)] at h2
    rw[Zus] at h2
    split at h2<;>cases h2
  have ha:vs[i]?=some v:=by
   unfold VY at h2
   rw[Ztb (by simpa using hi),Ztf] at h2
   cases e:vs[i]? with
   |none=>rw[e] at h2;cases h2
   |some a=>rw[e] at h2;cases h2;rfl
  obtain⟨u,hu,rv⟩:=r.get ha
  have hp:ps[i]?=some y:=by
   rw[<- S.pre,List.getElem?_take_of_lt (by omega)];exact h1
  have ndP:ps.Nodup:=by rw[<- S.pre];exact S.nd.sublist (List.take_sublist _ _)
  refine⟨u,rv, ?_⟩
  rcases S.par y (ZsQ hp) with k|k
  ·exact .inl ⟨k,ZbR ndP hp hu k⟩
  ·obtain⟨c,e⟩:=ZdS (n:=s.heap.objs.size+1) k
   refine .inr ⟨.inl k,c,e, ?_⟩
   have q:=x.cell y c e
   rw[ZbT ndP hp hu (by show scope.names.lookup y≠_;rw[k];decide)] at q
   exact q
 ·exact e0.hok.fresh (Nat.le_of_lt (x.above y c (PySem.mem_of_lookup h)))
 ·unfold VY
  show _=N.length
  rw[Zt7,ZsV,List.length_replicate]
  omega
theorem Zlq {CX:CXT}{P:Program}{w:World}{K:W.Frag}{mg:Str->Option Value}{base:Heap}{k:Nat}{f:Addr}{name qual:Str}{params:Arguments}{body:List Stmt}{scope:Scope}{dV kV doc pm cdv ct oc:Value}{an od:Option Addr}
  {osl:Array (Option Value)}{N ps:List Str}{sp:Sp} (lk:K.lookup f=some ⟨oc,od,.func (PySem.W.fnOf name qual params body scope dV kV doc pm an cdv ct),osl⟩) (hcd:PySem.W.codeIn K cdv qual=true) (S:Zx N ps scope)
  (len:∀vs H Q E,sp vs H Q E->vs.length=ps.length)
  (hbody:∀(A:Around) (outer:List Env) (s:Shared) (H:Hp) (vs:List V) (Q:VK) (E:XK),Qc k (A.deeper (envOfC qual scope s.heap.objs.size f cdv))->sp vs H Q E ->
   ∃t,PSs (Zbg CX P w K mg base N qual scope f cdv A outer s H E) body t/\t { nx:=fun _ H'=>Q .non H',rt:=Q } (VY N vs) H) :
  JT P w K mg base CX (k+1) f (PySem.W.fnOf name qual params body scope dV kV doc pm an cdv ct) ps sp:=by
 refine⟨len,fun A outer s H args us vs Q E hr e0 hb r hsp=>?_⟩
 have hl:=len _ _ _ _ hsp
 have KX:K.In s.heap:=e0.mod.kin.keeps fun b o e=>(e0.bs b o e).1
 have lim:s.heap.NoLimit:=e0.mod.nolimit.keeps fun b o e=>(e0.bs b o e).1
 have hkind:∀y∈ps.zip us,scope.names.lookup y.1=some .local\/(scope.names.lookup y.1=some .cell/\((cellsFrom (s.heap.objs.size+1) scope.names []).lookup y.1).isSome=true):=fun⟨n,v⟩ hy=>by
  rcases S.par n (ZuX hy).1 with q|q
  ·exact .inl q
  ·exact .inr ⟨q,PySem.W.cellsFrom_some _ _ _ (.inl q)⟩
 refine codeAny_call_function hr.depth (KX _ _ lk) rfl S.co S.gen rfl (PySem.W.codeRec_of KX hcd) (hb _ _ _ _ ?_)
 refine wpAny_newFunctionEnv_cells S.kind hkind fun env he s1 x=>?_
 subst he
 refine⟨lim.keeps x.toInCall.keep,codeAny_func ?_⟩
 obtain⟨t,ht,hq⟩:=hbody A outer s H vs Q E (hr.deeper _) hsp
 have I:Inv (Zbg CX P w K mg base N qual scope f cdv A outer s H E) [] (VY N vs) H s1:=ZfJ S hr.hd e0 hl r x
 refine wpAny_mono (ht [] s1 (VY N vs) H _ I hq) (fun fl s' hs=>?_) fun e s' hs=>hs
 have fin:∀{σ':St}{H':Hp}{v:V}{u:Value},Inv (Zbg CX P w K mg base N qual scope f cdv A outer s H E) [] σ' H' s'->Jo v u->Q v H'->CE outer P w H s Q u s':=
  fun {σ' H' v u} J rv q=>⟨v,H',J.os,J.bare,J.base,J.hok,rv,q⟩
 cases fl with
 |ret u =>
  obtain⟨v,σ',H',J,rv,q⟩:=hs
  exact fin J rv q
 |next =>
  obtain⟨σ',H',J,q⟩:=hs
  exact fin (v:=V.non) (u:=Value.none) J rfl q
 |brk =>
  obtain⟨_,_,_,q⟩:=hs
  exact False.elim q
 |cont =>
  obtain⟨_,_,_,q⟩:=hs
  exact False.elim q
section
variable {X:Cx}{x:Str}{p pos:Pos}{e:Expr}{es:List Expr}{t:TA}{id T:String}{r:List V->Hp->VK->Prop}
noncomputable def tCB (r:List V->Hp->VK->Prop) (t:TA):TE:=fun σ H Q=>t σ H fun vs H1=>r vs H1 Q
theorem Zo (hc:JJ X (.builtin id) r) (hg:Gl X x) (hm:X.mg x=none) (hv:bootBuiltins x=some (.builtin id)) (ha:PA X (e::es) t) (hn:x ≠ "__name__":=by decide) (hdb:(x==("__debug__":Str))=false:=by decide)
  (he:starEach (e::es) X.env=(false,eval e X.env)::starEach es X.env:=by rfl) (hpl:(backTo pos (starEach es X.env)).any (·.1)=false:=by rfl):PE X (.Call (.Name x p) (e::es) [] pos) (tCB r t):=by
 intro pins s σ H Q I h
 refine wpAny_Call_Name_kw (Zb6 I hg hm hv ?_ hn hdb)
 exact PyProof.Rows.callWith_builtin1 (thn (ha pos pins s σ H _ I h) fun us s1 ⟨vs,H1,I1,r1,q1⟩=>hc pins s1 σ H1 vs us Q I1 r1 q1) he hpl
theorem ZC (hc:JJ X (.type T) r) (hg:Gl X x) (hm:X.mg x=none) (hv:bootBuiltins x=some (.type T)) (ha:PA X (e::es) t) (hn:x ≠ "__name__":=by decide) (hdb:(x==("__debug__":Str))=false:=by decide)
  (he:starEach (e::es) X.env=(false,eval e X.env)::starEach es X.env:=by rfl) (hpl:(backTo pos (starEach es X.env)).any (·.1)=false:=by rfl):PE X (.Call (.Name x p) (e::es) [] pos) (tCB r t):=by
 intro pins s σ H Q I h
 refine wpAny_Call_Name_kw (Zb6 I hg hm hv ?_ hn hdb)
 exact PyProof.Rows.callWith_type1 (thn (ha pos pins s σ H _ I h) fun us s1 ⟨vs,H1,I1,r1,q1⟩=>hc pins s1 σ H1 vs us Q I1 r1 q1) he hpl
end
end L2
namespace HT
open PySem PyProof.Rows
noncomputable def ZD:List Int->List Int->Bool
 |[],[]=>false
 |[],_::_=>true
 |_::_,[]=>false
 |x::xs,y::ys=>if x=y then ZD xs ys else decide (x<y)
theorem JL (x y:Int) (xs ys:List Int):ZD (x::xs) (y::ys)=if x=y then ZD xs ys else decide (x<y):=rfl
theorem ZaP:ZD [] []=false:=rfl
theorem Zaa (y:Int) (ys:List Int):ZD [] (y::ys)=true:=rfl
theorem Zab (x:Int) (xs:List Int):ZD (x::xs) []=false:=rfl
theorem Zh5 (A:Around) (s:Shared) (a:Int) (t:Tok) (c:Int) (u:Tok):∃e,SeqAt.EqAt A s (.int a t) (.int c u) e/\(e=true ↔ a=c):=
 ⟨(a==c),SeqAt.EqAt.int_int a t c u,by simp⟩
theorem ZgP (A:Around) (s:Shared) (a:Int) (t:Tok) (c:Int) (u:Tok) (prog:Program) (w:World) (E:Value->Shared->Prop) (Q:Value->Shared->Prop) (h:Q (.bool (decide (a<c))) s) :
  wpAny (model prog w) A (richCompare .Lt (.int a t) (.int c u)) Q E s:=
 (PyProof.Rows.lt_int h:wpAny (model prog w) A (compareOp .Lt (.int a t) (.int c u)) Q E s)
section
open PySem.SeqAt
open PySem.AutoSeq1 (wpAny_loadPart')
open PySem.MeetsSeq PySem.MeetsSeq2 PySem.MeetsSeq3
end
section
noncomputable def sIx (n d:Nat):Option Int->Nat
 |none=>d
 |some v=>if v<0 then (v+(n:Int)).toNat else min v.toNat n
end
end HT
namespace L2
open PySem PySem.Spec PyProof.Rows
noncomputable abbrev TO:=St->Hp->(Option Int->Hp->Prop)->Prop
def PO (X:Cx) (e:Option Expr) (t:TO):Prop:=
 ∀(pins:List (Addr×Obj)) (s:Shared) (σ:St) (H:Hp) (Q:Option Int->Hp->Prop),Inv X pins σ H s->t σ H Q ->
  wpAny (model X.prog X.w) X.A (evalPart e X.env) (fun u s'=>∃o H',Inv X pins σ H' s'/\IsPart u o/\Q o H') X.xe s
noncomputable def ZeF:TO:=fun _ H Q=>Q none H
noncomputable def Zki (t:TE):TO:=fun σ H Q=>t σ H fun x H1=>∃i,x=.int i/\Q (some i) H1
theorem JM {ns:List Int}:∀{us:List Value},ZX (ns.map V.int) us->IntsAre us ns:=by
 induction ns with
 |nil=>intro us r;rw[ZuQ] at r;cases r;exact .nil
 |cons n ns ih =>
  intro us r
  rw[Ztg] at r
  cases r with
  |cons r1 r2 =>
   obtain⟨t,e⟩:=r1
   subst e
   exact .cons n t (ih r2)
section
variable {X:Cx}{e:Expr}{te:TE}{lo hi:Option Expr}{tl th:TO}{pos p2:Pos}
theorem Zcl:PO X none ZeF:=by
 intro pins s σ H Q I h
 rw[evalPart_none]
 exact wpAny_pure ⟨none,H,I,.none,h⟩
theorem Zck (h:PE X e te):PO X (some e) (Zki te):=by
 intro pins s σ H Q I hw
 rw[evalPart_some]
 refine thn (h pins s σ H _ I hw) fun u s1 ⟨x,H1,I1,r1,q1⟩=>?_
 obtain⟨i,rfl,q⟩:=q1
 obtain⟨t,rfl⟩:=r1
 exact⟨some i,H1,I1,.int i t,q⟩
def SlR (X:Cx) (r:V->Option Int->Option Int->Hp->VK->Prop):Prop:=
 ∀(pins:List (Addr×Obj)) (s:Shared) (σ:St) (H:Hp) (x:V) (v vl vu:Value) (lo hi:Option Int) (sl:Addr) (Q:VK),Inv X pins σ H s->Jo x v->s.heap.IsSliceOf sl vl vu .none->IsPart vl lo->IsPart vu hi->r x lo hi H Q ->
  ∃T id,typeLookup (.type T) "__getitem__"=pure (some (.builtin id))/\s.TypeIs v T/\wpAny (model X.prog X.w) X.A (getItem v (.ref sl)) (EP X pins σ Q) X.xe s
noncomputable def tSl (r:V->Option Int->Option Int->Hp->VK->Prop) (te:TE) (tl th:TO):TE:=fun σ H Q=>te σ H fun x H1=>tl σ H1 fun l H2=>th σ H2 fun u H3=>r x l u H3 Q
theorem ZaG {r:V->Option Int->Option Int->Hp->VK->Prop} (hr:SlR X r) (he:PE X e te) (hl:PO X lo tl) (hu:PO X hi th):PE X (.Subscript e (.Slice lo hi none p2) pos) (tSl r te tl th):=by
 intro pins s σ H Q I h
 refine Subscript_ (thn (he pins s σ H _ I h) fun v s1 ⟨x,H1,I1,r1,q1⟩=>?_)
 refine wpAny_Slice (thn (hl pins s1 σ H1 _ I1 q1) fun vl s2 ⟨l,H2,I2,pl,q2⟩=>thn (hu pins s2 σ H2 _ I2 q2) fun vu s3 ⟨u,H3,I3,pu,q3⟩=>?_)
 rw[evalPart_none]
 refine wpAny_pure ?_
 have I4:Inv X pins σ H3 { s3 with heap:=s3.heap.push { cls:=.type "slice",data:=.fields #[vl,vu,.none] } }:=I3.kept (t':=s3.toks) fun b ob q=>Heap.get?_push_of_some _ q
 obtain⟨T,id,hT,ht,hg⟩:=hr pins { s3 with heap:=s3.heap.push { cls:=.type "slice",data:=.fields #[vl,vu,.none] } } σ H3 x v vl vu l u s3.heap.objs.size Q I4 r1 (Heap.IsSliceOf.new ..) pl pu q3
 show wpAny (model X.prog X.w) X.A (subscriptTail e (.Slice lo hi none p2) v (.ref s3.heap.objs.size)) (EP X pins σ Q) X.xe { s3 with heap:=s3.heap.push { cls:=.type "slice",data:=.fields #[vl,vu,.none] } }
 exact tail_any (ops:=[.ref s3.heap.objs.size,v]) ht hT hg (by with_unfolding_all rfl)
noncomputable def ZjX (xs:List V) (lo hi:Option Int):List V:=(xs.drop (HT.sIx xs.length 0 lo)).take (HT.sIx xs.length xs.length hi-HT.sIx xs.length 0 lo)
theorem ZcF (xs:List V) (lo hi:Option Int):(ZjX xs lo hi).length<=xs.length:=by
 unfold ZjX
 rw[Ztk,ZtL]
 omega
end
noncomputable def ixN (n:Nat) (i:Int):Option Nat:=if 0<=i then (if i<n then some i.toNat else none) else if -(n:Int)<=i then some (i+n).toNat else none
noncomputable def atI {α:Type} (xs:List α) (i:Int):Option α:=(ixN xs.length i).bind fun j=>xs[j]?
theorem UR {n:Nat}{i:Int}{j:Nat} (h:ixN n i=some j):seqIndex? i n=some j/\j<n/\-(n:Int)<=i/\i<n:=by
 unfold ixN at h
 by_cases h0:0<=i
 ·rw[if_pos h0] at h
  by_cases h1:i<n
  ·rw[if_pos h1] at h
   have e:i.toNat=j:=Option.some.inj h
   exact⟨by rw[seqIndex_of h0 h1,e],by omega,by omega,h1⟩
  ·rw[if_neg h1] at h;cases h
 ·rw[if_neg h0] at h
  by_cases h1:-(n:Int)<=i
  ·rw[if_pos h1] at h
   have e:(i+n).toNat=j:=Option.some.inj h
   exact⟨by rw[seqIndex_neg (by omega) h1,e],by omega,h1,by omega⟩
  ·rw[if_neg h1] at h;cases h
theorem Zbd {α:Type}{xs:List α}{i:Int}{v:α} (h:atI xs i=some v):∃j,seqIndex? i xs.length=some j/\xs[j]?=some v/\j<xs.length/\-(xs.length:Int)<=i/\i<xs.length:=by
 unfold atI at h
 cases e:ixN xs.length i with
 |none=>rw[e] at h;cases h
 |some j =>
  rw[e] at h
  obtain⟨h1,h2,h3,h4⟩:=UR e
  exact⟨j,h1,h,h2,h3,h4⟩
def ZjO (b:Expr):Prop:=∀o i,subscripted b false o i=operate [o,i] (getItem o i)
def IxR (X:Cx) (r:R2):Prop:=
 ∀(value slice:Expr) (pins:List (Addr×Obj)) (s:Shared) (σ:St) (H:Hp) (x y:V) (v u:Value) (Q:VK),Inv X pins σ H s->Jo x v->Jo y u->r x y H Q ->
  subscripted slice false v u=operate [v,u] (getItem v u)->wpAny (model X.prog X.w) X.A (subscriptTail value slice v u) (EP X pins σ Q) X.xe s
def MtR (X:Cx) (id:String) (r:V->List V->Hp->VK->Prop):Prop:=
 ∀(pins:List (Addr×Obj)) (s:Shared) (σ:St) (H:Hp) (x:V) (xs:List V) (v:Value) (us:List Value) (Q:VK),Inv X pins σ H s->Jo x v->ZX xs us->r x xs H Q ->
  wpAny (model X.prog X.w) X.A (call (.builtin id) (v::us)) (EP X pins σ Q) X.xe s
section
variable {X:Cx}{a b:Expr}{ta tb:TE}{pos:Pos}
theorem IxR.or {r r':R2} (h:IxR X r) (h':IxR X r'):IxR X (fun x y H Q=>r x y H Q\/r' x y H Q):=by
 intro value slice pins s σ H x y v u Q I rx ry q hs
 rcases q with q|q
 ·exact h value slice pins s σ H x y v u Q I rx ry q hs
 ·exact h' value slice pins s σ H x y v u Q I rx ry q hs
theorem ZI {r:R2} (hr:IxR X r) (ha:PE X a ta) (hb:PE X b tb) (hs:ZjO b):PE X (.Subscript a b pos) (tOp r ta tb):=by
 intro pins s σ H Q I h
 exact Subscript_ (ZmC ha hb I h fun v u s2 x y H2 I2 rx ry q=>hr a b pins s2 σ H2 x y v u Q I2 rx ry q (hs _ _))
noncomputable def Zk2 (K:W.Frag):R2:=fun x y H Q=>∃p xs i v,x=.ref p/\y=.int i/\SqL K H p xs/\atI xs i=some v/\Q v H
noncomputable def ZmM (K:W.Frag):R2:=fun x y H Q=>∃p xs i v,x=.ref p/\y=.int i/\SqT K H p xs/\atI xs i=some v/\Q v H
noncomputable def ZmN:R2:=fun x y H Q=>∃z i c,x=.str z/\y=.int i/\z.length<=sizeLine/\atI z.cps.toList i=some c/\Q (.str ⟨#[c]⟩) H
theorem Zjk:IxR X (Zk2 X.K):=by
 intro value slice pins s σ H x y v u Q I rx ry h hs
 obtain⟨p,xs,i,z,rfl,rfl,hq,he,q⟩:=h
 cases rx
 obtain⟨t,rfl⟩:=ry
 obtain⟨its,r,pl,hz⟩:=I.list hq
 obtain⟨j,h1,h2,h3,h4,h5⟩:=Zbd he
 obtain⟨w,ew,rw'⟩:=r.get h2
 have hl:=r.length
 have hn:=Zaq
 have fin:EP X pins σ Q w s:=⟨z,H,I,rw',q⟩
 by_cases h0:0<=i
 ·have hj:i.toNat=j:=by
   rw[seqIndex_of h0 h5] at h1
   exact Option.some.inj h1
  exact item_listR pl.isList h0 (by omega) (by rw[hj];simpa using ew) fin hs
 ·have hj:(i+(its.toArray.size:Int)).toNat=j:=by
   rw[seqIndex_neg (by omega) h4] at h1
   rw[Ztd,<- hl]
   exact Option.some.inj h1
  exact subscriptTail_builtinR (x:=w) pl.isList.typeIs slot_list_getitem.lookup
   (wpAny_getItem_list_neg (Q:=fun r s'=>r=w/\EP X pins σ Q r s') pl.isList (by omega) (by rw[Ztd]<;>omega) (by omega) (by rw[hj];simpa using ew) ⟨rfl,fin⟩) hs
theorem Zle:IxR X (ZmM X.K):=by
 intro value slice pins s σ H x y v u Q I rx ry h hs
 obtain⟨p,xs,i,z,rfl,rfl,hq,he,q⟩:=h
 cases rx
 obtain⟨t,rfl⟩:=ry
 obtain⟨its,r,pl,hz⟩:=I.tuple hq
 obtain⟨j,h1,h2,h3,h4,h5⟩:=Zbd he
 obtain⟨w,ew,rw'⟩:=r.get h2
 have hl:=r.length
 have hn:=Zaq
 have fin:EP X pins σ Q w s:=⟨z,H,I,rw',q⟩
 exact subscriptTail_builtinR (x:=w) pl.typeIs slot_tuple_getitem.lookup
  (getItem_tuple (j:=j) (Q:=fun r s'=>r=w/\EP X pins σ Q r s') pl (by omega) (by omega) (by rw[Ztd,<- hl];exact h1) (by simpa using ew) ⟨rfl,fin⟩) hs
theorem Zlf:IxR X ZmN:=by
 intro value slice pins s σ H x y v u Q I rx ry h hs
 obtain⟨z,i,c,rfl,rfl,hz,he,q⟩:=h
 obtain⟨t,rfl⟩:=rx
 obtain⟨t',rfl⟩:=ry
 obtain⟨j,h1,h2,h3,h4,h5⟩:=Zbd he
 have hl:z.cps.toList.length=z.length:=by simp[Str.length]
 rw[hl] at h1 h4 h5
 have hn:=Zaq
 exact tail_any (typeIs_str s z t) slot_str_getitem.lookup (getItem_str (c:=c) (by
  have e1:decide (i < -(2^63:Int))=false:=decide_eq_false (by omega)
  have e2:decide (i ≥ 2^63)=false:=decide_eq_false (by omega)
  rw[e1,e2,Bool.or_false]) (by rw[h1];simpa using h2) ⟨.str ⟨#[c]⟩,H,I.tok _,⟨_,rfl⟩,q⟩) hs
noncomputable def rIx (K:W.Frag):R2:=fun x y H Q=>Zk2 K x y H Q\/ZmM K x y H Q\/ZmN x y H Q
theorem Zlg:IxR X (rIx X.K):=Zjk.or (Zle.or Zlf)
theorem Zeq (its:List Value) (n j:Nat) (u:Value):Obj.mapSeq (·.setIfInBounds j u) { cls:=.type "list",data:=.seq its.toArray n }={ cls:=.type "list",data:=.seq (its.set j u).toArray n }:=by
 simp[Obj.mapSeq]
theorem Inv.lst {pins:List (Addr×Obj)}{σ:St}{H:Hp}{s:Shared}{p:Addr}{xs:List V} (I:Inv X pins σ H s) (h:H p=some (.lst xs)) :
  ∃(its:List Value) (n:Nat),ZX xs its/\s.heap.get? p=some { cls:=.type "list",data:=.seq its.toArray n }/\xs.length<=sizeLine:=by
 obtain⟨z,its,n,r,e⟩:=I.hok p _ h
 exact⟨its,n,r,e,z⟩
theorem Inv.lstUpd {pins:List (Addr×Obj)}{σ:St}{H:Hp}{s:Shared}{p:Addr}{xs ys:List V}{its its':List Value}{n n':Nat}{f:Obj->Obj} (I:Inv X pins σ H s) (h:H p=some (.lst xs))
  (ho:s.heap.get? p=some { cls:=.type "list",data:=.seq its.toArray n }) (hf:f { cls:=.type "list",data:=.seq its.toArray n }={ cls:=.type "list",data:=.seq its'.toArray n' }) (r:ZX ys its') (hz:ys.length<=sizeLine) (t:Nat) :
  Inv X pins σ (upd H p (.lst ys)) { s with heap:=s.heap.update p f,toks:=t }:=by
 have e:(s.heap.update p f).get? p=some { cls:=.type "list",data:=.seq its'.toArray n' }:=by
  rw[Heap.get?_update_self f ho (by rw[hf]<;>rfl),hf]
 refine I.write (x:=p) (e:=p) (by rw[h];trivial) (.inl rfl) (fun b u hb q=>(Heap.get?_update_other _ _ (Ne.symm hb)).trans q) ⟨_,e⟩ ?_
 exact⟨hz,its',n',r,e⟩
def ZiH:V->V->V->Hp->(Hp->Prop)->Prop:=fun o i v H Q=>∃p xs k j,o=.ref p/\i=.int k/\H p=some (.lst xs)/\ixN xs.length k=some j/\Q (upd H p (.lst (xs.set j v)))
theorem Vq:ZmG X ZiH:=by
 intro pins s σ H o i v ov iv u Q I ro ri rv h
 obtain⟨p,xs,k,j,rfl,rfl,hp,hj,q⟩:=h
 cases ro
 obtain⟨t,rfl⟩:=ri
 obtain⟨its,n,r,ho,hz⟩:=I.lst hp
 obtain⟨h1,h2,h3,h4⟩:=UR hj
 have hl:=r.length
 have hn:=Zaq
 have I':Inv X pins σ (upd H p (.lst (xs.set j v))) { s with heap:=s.heap.update p (Obj.mapSeq (·.setIfInBounds j u)) }:=
  I.lstUpd hp ho (Zeq its n j u) (r.set rv j) (by rw[ZtH];exact hz) s.toks
 by_cases h0:0<=k
 ·have hk:k.toNat=j:=by
   rw[seqIndex_of h0 h4] at h1
   exact Option.some.inj h1
  exact PySem.W.ki_setAt ho h0 (by omega) (by rw[Ztd,<- hl];exact h4) (by rw[hk];exact⟨_,I',q⟩)
 ·have hk:(k+(its.toArray.size:Int)).toNat=j:=by
   rw[seqIndex_neg (by omega) h3] at h1
   rw[Ztd,<- hl]
   exact Option.some.inj h1
  exact PySem.W.ki_setBack ho (by omega) (by rw[Ztd,<- hl];exact h3) (by omega) (by rw[hk];exact⟨_,I',q⟩)
theorem Zbq (lo hi:Option Int) (n:Nat):(sliceBounds lo hi none n).1=((HT.sIx n 0 lo:Nat):Int)/\(sliceBounds lo hi none n).2.1=((HT.sIx n n hi:Nat):Int)/\(sliceBounds lo hi none n).2.2=1:=by
 refine⟨?_, ?_,rfl⟩
 ·cases lo with
  |none=>simp[sliceBounds,HT.sIx]
  |some i =>
   simp only[sliceBounds,HT.sIx,Option.getD_none,show (1:Int)>0 by decide,if_true]
   by_cases h:i<0
   ·simp only[h,if_true]<;>omega
   ·simp only[h,if_false]<;>omega
 ·cases hi with
  |none=>simp[sliceBounds,HT.sIx]
  |some i =>
   simp only[sliceBounds,HT.sIx,Option.getD_none,show (1:Int)>0 by decide,if_true]
   by_cases h:i<0
   ·simp only[h,if_true]<;>omega
   ·simp only[h,if_false]<;>omega
theorem ZaB (its:List Value) (lo hi:Option Int):slicePick its.toArray lo hi none=((its.drop (HT.sIx its.length 0 lo)).take (HT.sIx its.length its.length hi-HT.sIx its.length 0 lo)).toArray:=by
 obtain⟨h1,h2,h3⟩:=Zbq lo hi its.toArray.size
 unfold slicePick
 rw[h1,h2,h3]
 simp only[sliceRange_one,pick_run,Ztd]<;>rfl
def Zmm (K:W.Frag):V->Option Int->Option Int->Hp->VK->Prop:=fun x lo hi H Q=>∃a xs,x=.ref a/\SqL K H a xs/\∀p,H p=none->Q (.ref p) (upd H p (.lst (ZjX xs lo hi)))
theorem ZiE:SlR X (Zmm X.K):=by
 intro pins s σ H x v vl vu lo hi sl Q I rx hs pl pu h
 obtain⟨a,xs,rfl,hx,q⟩:=h
 cases rx
 obtain⟨its,r,ht,hz⟩:=I.list hx
 have hlen:=r.length
 refine⟨"list",_,slot_list_getitem.lookup,ht.isList.typeIs, ?_⟩
 refine wpAny_getItem_list_slice ht.isList hs pl pu .none (by simp) ?_ (by rw[Ztd]<;>omega)
 rw[ZaB,<- hlen]
 refine⟨.ref s.heap.objs.size,_,I.laid (t':=s.toks) (o:=.lst (ZjX xs lo hi)) (fun b ob q=>Heap.get?_push_of_some _ q) (ZsU _) ?_,rfl,q _ (I.hok.fresh (ZsU _))⟩
 exact⟨Ztu (ZcF xs lo hi) hz,_,0,(r.drop (HT.sIx xs.length 0 lo)).take (HT.sIx xs.length xs.length hi-HT.sIx xs.length 0 lo),Heap.get?_push_size _ rfl⟩
theorem ZbP:JJ X (.builtin "len") (fun xs H Q=>∃p ys,xs=[.ref p]/\(SqL X.K H p ys\/SqT X.K H p ys)/\Q (.int ys.length) H):=by
 intro pins s σ H xs us Q I r h
 obtain⟨p,ys,rfl,hq,q⟩:=h
 obtain⟨u,rfl,rx⟩:=QY r
 cases rx
 have hn:=Zaq
 rcases hq with hq|hq
 ·obtain⟨its,r',pl,hz⟩:=I.list hq
  have hlen:=r'.length
  exact Calls.call_len_list pl.isList (by simp only[Ztd]<;>omega) ⟨.int ys.length,H,I.tok _,⟨s.toks+1,by rw[Ztd,hlen]⟩,q⟩
 ·obtain⟨its,r',pl,hz⟩:=I.tuple hq
  have hlen:=r'.length
  exact len_tuple pl (by simp only[Ztd]<;>omega) ⟨.int ys.length,H,I.tok _,⟨s.toks+1,by rw[Ztd,hlen]⟩,q⟩
theorem ZbN:JJ X (.type "list") (fun xs H Q=>∃p ys,xs=[.ref p]/\(SqL X.K H p ys\/SqT X.K H p ys)/\∀l,H l=none->Q (.ref l) (upd H l (.lst ys))):=by
 intro pins s σ H xs us Q I r h
 obtain⟨p,ys,rfl,hq,q⟩:=h
 obtain⟨u,rfl,rx⟩:=QY r
 cases rx
 have fin:∀(its:List Value),ZX ys its->ys.length<=sizeLine->∀(h':Heap) (c':Nat),(∀b o',s.heap.get? b=some o'->h'.get? b=some o') ->
   h'.get? s.heap.objs.size=some { cls:=.type "list",dict:=none,data:=.seq its.toArray c',slots:=#[] }->EP X pins σ Q (.ref s.heap.objs.size) { s with heap:=h' }:=fun its r' hz h' c' kp e =>
  ⟨.ref s.heap.objs.size,_,I.laid (t':=s.toks) kp (ZsU _) (show JI X.prog X.w _ h' _ (.lst ys) from ⟨hz,its,c',r',e⟩),rfl,q _ (I.hok.fresh (ZsU _))⟩
 rcases hq with hq|hq
 ·obtain⟨its,r',pl,hz⟩:=I.list hq
  have hlen:=r'.length
  obtain⟨o,ho,hc,n,hd⟩:=pl.isList
  exact call_list_seq p (.inl rfl) ho hc hd (fun h' c' kp e=>fin its r' hz h' c' kp e) (by simp only[Ztd]<;>omega)
 ·obtain⟨its,r',pl,hz⟩:=I.tuple hq
  have hlen:=r'.length
  obtain⟨o,ho,hc,n,hd⟩:=pl
  exact call_list_seq p (.inr rfl) ho hc hd (fun h' c' kp e=>fin its r' hz h' c' kp e) (by simp only[Ztd]<;>omega)
theorem Zba:JJ X (.type "tuple") (fun xs H Q=>∃p ys,xs=[.ref p]/\((SqL X.K H p ys/\∀l,H l=none->Q (.ref l) (upd H l (.tup ys)))\/(SqT X.K H p ys/\Q (.ref p) H))):=by
 intro pins s σ H xs us Q I r h
 obtain⟨p,ys,rfl,h⟩:=h
 obtain⟨u,rfl,rx⟩:=QY r
 cases rx
 rcases h with ⟨hq,q⟩|⟨hq,q⟩
 ·obtain⟨its,r',pl,hz⟩:=I.list hq
  have hlen:=r'.length
  refine call_tuple_list pl.isList (fun h' kp=>?_) (by simp only[Ztd]<;>omega)
  have I1:Inv X pins σ H { s with heap:=h' }:=I.kept (t':=s.toks) kp
  have I2:Inv X pins σ (upd H h'.objs.size (.tup ys)) { s with heap:=h'.push { cls:=.type "tuple",data:=.seq its.toArray } }:=
   I1.laid (t':=s.toks) (fun b o e=>Heap.get?_push_of_some _ e) (ZsU _) (show JI X.prog X.w _ _ _ (.tup ys) from ⟨hz,its,r',IsTup.new _ _⟩)
  exact⟨.ref h'.objs.size,_,I2,rfl,q _ (I1.hok.fresh (ZsU _))⟩
 ·obtain⟨its,r',pl,hz⟩:=I.tuple hq
  exact call_tuple_same pl ⟨.ref p,H,I,rfl,q⟩
def tyV (K:W.Frag) (T:String) (x:V) (H:Hp):Prop:=match x with
 |.str _=>T = "str"
 |.int _=>T = "int"
 |.ref p=>(T = "list"/\∃xs,SqL K H p xs)\/(T = "tuple"/\∃o,K.lookup p=some o/\o.cls=.type "tuple"/\o.dict=none) \/
   (T = "dict"/\((∃kvs,H p=some (.dK kvs))\/∃kvs,H p=some (.dT kvs)))\/(T = "set"/\∃S n,H p=some (.set S n))
 |_=>False
theorem ZhU {pins:List (Addr×Obj)}{σ:St}{H:Hp}{s:Shared}{T:String}{x:V}{v:Value} (I:Inv X pins σ H s) (r:Jo x v) (ty:tyV X.K T x H) :
  s.TypeIs v T/\∀a,v=.ref a->∃ob,s.heap.get? a=some ob/\ob.dict=none:=by
 cases x with
 |str z =>
  obtain⟨t,rfl⟩:=r
  cases (show T = "str" from ty)
  exact⟨typeIs_str s z t,fun _ e=>nomatch e⟩
 |int i =>
  obtain⟨t,rfl⟩:=r
  cases (show T = "int" from ty)
  exact⟨typeIs_int s i t,fun _ e=>nomatch e⟩
 |ref p =>
  cases r
  rcases ty with ⟨rfl,xs,hq⟩|⟨rfl,o,hk,hc,hd⟩|⟨rfl,hk⟩|⟨rfl,S,n,hk⟩
  ·obtain⟨its,_,pl,_⟩:=I.list hq
   refine⟨pl.isList.typeIs,fun a e=>?_⟩
   cases e
   obtain⟨o,n,e,c,hd,_⟩:=pl
   exact⟨o,e,hd⟩
  ·refine⟨⟨o,I.kIn p o hk,hc⟩,fun a e=>?_⟩
   cases e
   exact⟨o,I.kIn _ o hk,hd⟩
  ·have z:∃o,s.heap.get? p=some o/\o.ExactDict:=by
    rcases hk with ⟨kvs,hk⟩|⟨kvs,hk⟩
    ·obtain⟨_,_,_,_,o,_,_,e,ex,_⟩:=I.hok p _ hk
     exact⟨o,e,ex⟩
    ·obtain⟨_,_,_,_,o,_,_,e,ex,_⟩:=I.hok p _ hk
     exact⟨o,e,ex⟩
   obtain⟨o,e,ex⟩:=z
   refine⟨⟨o,e,ex.1⟩,fun a e2=>?_⟩
   cases e2
   exact⟨o,e,ex.2.1⟩
  ·obtain⟨o,_,_,_,e,ex,_⟩:=I.hok p _ hk
   refine⟨⟨o,e,ex.1⟩,fun a e2=>?_⟩
   cases e2
   exact⟨o,e,ex.2.1⟩
 |_=>exact False.elim ty
noncomputable def Znk (K:W.Frag) (T:String) (r:V->List V->Hp->VK->Prop) (to:TE):TE:=fun σ H Q=>to σ H fun x H1=>tyV K T x H1/\r x [] H1 Q
noncomputable def tBM (K:W.Frag) (T:String) (r:V->List V->Hp->VK->Prop) (to:TE) (t:TA):TE:=fun σ H Q=>to σ H fun x H1=>tyV K T x H1/\t σ H1 fun xs H2=>r x xs H2 Q
variable {o e:Expr}{es:List Expr}{to:TE}{t:TA}{name:Str}{apos cpos:Pos}{T id:String}{r:V->List V->Hp->VK->Prop}
theorem Zk8 (pa:PlainAttrs T) (slot:Slot T name id) (hty:typeOf (.builtin id)=pure (.type "method_descriptor")) (hm:MtR X id r) (ho:PE X o to)
  (hbase:attributeBase o name X.env (eval o X.env)=eval o X.env:=by rfl) (hline:(apos.endLine==cpos.line)=true:=by rfl):PE X (.Call (.Attribute o name apos) [] [] cpos) (Znk X.K T r to):=by
 intro pins s σ H Q I h
 refine wpAny_Call_method0_late hbase hline (thn (ho pins s σ H _ I h) fun v s1 ⟨x,H1,I1,r1,ty,q1⟩=>?_)
 obtain⟨h1,h2⟩:=ZhU I1 r1 ty
 exact⟨T,id,pa,slot,hty,h1,h2,Calls.callWith_builtin rfl (PySem.evalArgs_none (hm pins s1 σ H1 x [] v [] Q I1 r1 .nil q1))⟩
theorem ZaI (pa:PlainAttrs T) (slot:Slot T name id) (hty:typeOf (.builtin id)=pure (.type "method_descriptor")) (hm:MtR X id r) (ho:PE X o to) (ha:PA X (e::es) t)
  (hbase:attributeBase o name X.env (eval o X.env)=eval o X.env:=by rfl)
  (hfew:((backTo cpos (starEach (e::es) X.env)).all (fun x=>!x.1)&&(backToKw cpos (keywordEach [] X.env)).all (fun x=>x.1.isSome)
   && decide ((e::es).length+([]:List Keyword).length+(if ([]:List Keyword).isEmpty then 0 else 1)<30))=true:=by rfl)
  (hline:(apos.endLine==cpos.line)=true:=by rfl) (hs:starEach (e::es) X.env=(false,eval e X.env)::starEach es X.env:=by rfl) (hplain:(backTo cpos (starEach es X.env)).any (·.1)=false:=by rfl) :
  PE X (.Call (.Attribute o name apos) (e::es) [] cpos) (tBM X.K T r to t):=by
 intro pins s σ H Q I h
 refine wpAny_Call_method_late hbase hfew hline rfl (thn (ho pins s σ H _ I h) fun v s1 ⟨x,H1,I1,r1,ty,q1⟩=>?_)
 obtain⟨h1,h2⟩:=ZhU I1 r1 ty
 refine⟨T,id,pa,slot,hty,h1,h2, ?_⟩
 have hA:=ha cpos pins s1 σ H1 _ I1 q1
 rw[hs] at hA ⊢
 refine Calls.callWith_builtin (by show (false || (backTo cpos (starEach es X.env)).any (·.1))=false;rw[hplain]<;>rfl) (Calls.evalArgs_plain ?_)
 exact thn hA fun us s2 ⟨vs,H2,I2,r2,q2⟩=>hm pins s2 σ H2 x vs v us Q I2 r1 r2 q2
end
def MtM (X:Cx) (id:String) (r:V->List V->Hp->VK->Prop):Prop:=
 ∀(pins:List (Addr×Obj)) (s:Shared) (σ:St) (H:Hp) (x:V) (xs:List V) (v:Value) (us:List Value) (Q:VK),Inv X pins σ H s->Jo x v->ZX xs us->r x xs H Q ->
  wpAny (model X.prog X.w) X.A (call (.builtin id) (v::us)) (EP X pins σ Q) X.xe s
theorem ZX.one:∀{x:V}{us:List Value},ZX [x] us->∃u,us=[u]/\Jo x u
 |_,_,.cons r .nil=>⟨_,rfl,r⟩
theorem ZX.zero:∀{us:List Value},ZX [] us->us=[]
 |_,.nil=>rfl
theorem ZX.reverse {xs:List V}{us:List Value} (h:ZX xs us):ZX xs.reverse us.reverse:=by
 induction h with
 |nil=>exact .nil
 |cons r t ih=>rw[Zuk,Zuk];exact ZX.append ih (.cons r .nil)
section
variable {X:Cx}{pins:List (Addr×Obj)}{σ:St}{H:Hp}{s:Shared}{l:Addr}{xs ys:List V}
theorem Inv.lset {its its':List Value}{n:Nat}{f:Array Value->Array Value}{t':Nat} (I:Inv X pins σ H s) (hH:H l=some (.lst xs))
  (e:s.heap.get? l=some { cls:=.type "list",data:=.seq its.toArray n }) (hf:f its.toArray=its'.toArray) (hv:ZX ys its') (hz:ys.length<=sizeLine) :
  Inv X pins σ (upd H l (.lst ys)) { s with heap:=s.heap.update l (Obj.mapSeq f),toks:=t' }:=by
 have q:=PySem.IsL.update e f
 rw[hf] at q
 refine I.write (x:=l) (e:=l) (by rw[hH];exact trivial) (.inl rfl) (fun b' u hb hu=>(Heap.get?_update_other s.heap (Obj.mapSeq f) (Ne.symm hb)).trans hu) ⟨_,q⟩ ?_
 exact⟨hz,its',_,hv,q⟩
theorem Inv.lstM (I:Inv X pins σ H s) (hH:H l=some (.lst xs)):xs.length<=sizeLine/\∃(its:List Value) (n:Nat),ZX xs its/\xs.length=its.length/\s.heap.get? l=some { cls:=.type "list",data:=.seq its.toArray n }:=by
 obtain⟨z,its,n,r,e⟩:=I.hok l _ hH
 exact⟨z,its,n,r,r.length,e⟩
end
section
variable {X:Cx}
def UM:V->List V->Hp->VK->Prop:=fun x vs H Q=>∃l xs y,x=.ref l/\vs=[y]/\H l=some (.lst xs)/\xs.length<sizeLine/\Q .non (upd H l (.lst (xs++[y])))
theorem Jr:MtM X "list.append" UM:=by
 intro pins s σ H x vs v us Q I rx rv h
 obtain⟨l,xs,y,rfl,rfl,hH,hz,q⟩:=h
 cases rx
 obtain⟨u,rfl,ru⟩:=rv.one
 obtain⟨z,its,n,r,hl,e⟩:=I.lstM hH
 refine call_meets F.slot_list_append ⟨_,e,rfl⟩ F.entry_list_append (F.args_list_append_2 _ _) (PySem.list_append l its.toArray n u (by rw[Ztd];omega)) ⟨e, ?_⟩
 refine⟨.non,_,I.lset (its':=its++[u]) hH e (by simp) (r.append (.cons ru .nil)) ?_,rfl,q⟩
 rw[Zt7,Zu2]
 omega
def Zdp:V->List V->Hp->VK->Prop:=fun x vs H Q=>∃l xs,x=.ref l/\vs=[]/\H l=some (.lst xs)/\Q .non (upd H l (.lst xs.reverse))
theorem Zep:MtM X "list.reverse" Zdp:=by
 intro pins s σ H x vs v us Q I rx rv h
 obtain⟨l,xs,rfl,rfl,hH,q⟩:=h
 cases rx
 have hus:=rv.zero
 subst hus
 obtain⟨z,its,n,r,hl,e⟩:=I.lstM hH
 refine call_meets F.slot_list_reverse ⟨_,e,rfl⟩ F.entry_list_reverse (F.args_list_reverse_1 _) (AutoSeq1.list_reverse_list_0 l its.toArray n (by rw[Ztd];omega)) ⟨e, ?_⟩
 refine⟨.non,_,I.lset (its':=its.reverse) hH e (by simp) r.reverse ?_,rfl,q⟩
 rw[List.length_reverse]
 omega
end
section
set_option maxRecDepth 100000 in
end
section
end
end L2
namespace Att
open PySem PySem.W PySem.Calls PyProof.Rows
theorem QO {P:Params}{h:Heap}:∀(ns:List Int) (vs:List Value),WellAll P h vs (ns.map WData.int)->IntsAre vs ns:=by
 intro ns
 induction ns with
 |nil =>
  intro vs w
  rw[ZuQ] at w
  cases w
  exact .nil
 |cons n ns ih =>
  intro vs w
  rw[Ztg] at w
  cases w with
  |cons a b =>
   cases a
   exact .cons _ _ (ih _ b)
theorem ZeT {l:OpenLaw}{n:Nat} (hn:l.most=some n) {P:Params}{h:Heap}{args:List WData}{vals:List Value}
  (hpre:l.row.toRowW.claim.pre args=true) (hwl:WellAll P h vals args) :
  ∃a vs ns,vals=[Value.ref a]/\args=[WData.list (ns.map WData.int)]/\h.get? a=some { cls:=.type "list",data:=.seq vs.toArray }/\IntsAre vs ns/\ns.length<=n:=by
 have hsh:WShape.hasAll [] args [.list .int]=true:=(pre_splitW hpre).1
 have hc:l.pre.holds [] { args:=args }=true:=(pre_splitW hpre).2
 obtain⟨d,r,rfl,h1,h2⟩:=hasAllW_cons hsh
 obtain rfl:=hasAllW_nil h2
 obtain⟨xs,rfl,h3⟩:=hasW_list h1
 obtain⟨ns,rfl⟩:=items_int h3
 have hlen:ns.length<=n:=by
  unfold OpenLaw.pre at hc
  have h4:(WTm.not (.lt (.lit (.int (n:Int))) (.len (.arg 0)))).holds [] { args:=[.list (ns.map .int)] }=true:=by
   have h4:=(holds_andW hc).1
   rw[hn] at h4
   exact h4
  have h5:=condW_of h4 (w_not (w_lt w_lit (w_len_list (w_arg rfl))))
  rw[ZsV] at h5
  refine Nat.le_of_not_lt fun q=>?_
  have q':(n:Int)<((ns.length:Nat):Int):=by omega
  first
   |(rw[decide_eq_true q'] at h5;exact absurd h5 (by decide))
   |(simp at h5;omega)
 cases hwl with
 |cons w1 w2 =>
  cases w2
  cases w1 with
  |list ho hall=>exact⟨_,_,ns,rfl,rfl,ho,QO ns _ hall,hlen⟩
theorem Zff (l:OpenLaw) (args:List WData):l.row.toRowW.claim.post args (.bool true) args=true:=
 postW_of (r:=l.row.toRowW) (X:=(true==true))
  (show WShape.has [] (.bool true) .bool=true by first|rfl|decide|simp[WShape.has,WShape.arms,WShape.armsAll])
  (show (WTm.eq .res (.lit (.bool true))).value [] { args:=args,res:=some (.bool true),after:=args }=some (.bool (true==true)) from w_eq_bool (w_res rfl) w_lit) rfl
theorem ZcP {l:OpenLaw}{n:Nat}{q:Program}{loose:List Str}{XP:(Str->Option Value)->Heap->Prop}{YP:World->Heap->Prop}{d:DefRec}
  (hn:l.most=some n) (hdf:d.params.defaults=[])
  (call:∀(w:World) (s₀ s₁:Shared) (mg mb:Str->Option Value) (fa:Addr) (o:Obj) (pm cd doc:Value) (a:Addr) (vs:List Value) (ns:List Int),
   Ground q loose [] XP w s₀ mg mb s₁.heap->YP w s₁.heap ->
   s₁.heap.get? fa=some o->o.data=.func (docDef d.name d.params d.body d.scope pm cd doc)->s₁.heap.CodeRec cd d.name->mg d.name=some (.ref fa) ->
   s₁.heap.get? a=some { cls:=.type "list",data:=.seq vs.toArray }->IntsAre vs ns->ns.length<=n->s₁.gens=#[] ->
   codeAny (model l.prog w) callerA (.call (.ref fa) ⟨[.ref a],[]⟩) (fun r s'=>r=.ok (.ret (.bool true))/\OldK s₁.heap s'.heap/\s'.os=s₁.os/\AllBare s'.gens) s₁) :
  WalkO q loose XP YP l.row.toRowW d [] (fun f vs=>PySem.call f vs):=by
 intro w s₀ s₁ mg mb G Y fa o pm cd doc dV kV ho hd hcd hD hmg hg args vals as hpre hlay hrd hwl hlo
 obtain rfl:dV=.none:=Dflts.none hD hdf
 obtain rfl:kV=.none:=Dflts.noKw hD
 obtain⟨a,vs,ns,rfl,rfl,hobj,hints,hlen⟩:=ZeT hn hpre hwl
 refine enter_call (codeAny_mono (call w s₀ s₁ mg mb fa o pm cd doc a vs ns G Y ho (fd_plain hd) hcd hmg hobj hints hlen hg) fun r s' hq=>?_)
 obtain⟨rfl,h2,h3,h4⟩:=hq
 exact⟨.inl ⟨.bool true,.bool true,[],rfl,fun _=>rfl,.bool true,Zff l _,fun _=>⟨List.Pairwise.nil,fun _ hm=>(nomatch hm)⟩⟩,h2,h3,h4⟩
section
end
end Att
namespace L2
open PySem PySem.Spec PyProof.Rows
theorem Zbj:∀{vs:List Value}{ns:List Int},IntsAre vs ns->ZX (ns.map V.int) vs
 |_,_,.nil=>.nil
 |_,_,.cons n t h=>.cons ⟨t,rfl⟩ (Zbj h)
def ZlK (H:Hp):Prop:=∀b,H b=none\/∃o xs,H b=some (.frz o (.lst xs))
theorem Zho {P:Program}{w:World}{K:W.Frag}{mg mb:Str->Option Value}{CX:CXT}{k:Nat}{fa a:Addr}{fd:FuncData}{x:Str}{sp:Sp}{s₁:Shared}{vs:List Value}{ns:List Int}
  (KX:K.In s₁.heap) (hns:s₁.heap.Ns mainGlobals mg) (hb:s₁.heap.Ns builtinsNs mb) (hbb:∀x:Str,x ≠ "__name__"->mb x=bootBuiltins x) (hlim:s₁.heap.NoLimit) (hg:s₁.gens=#[])
  (ha:s₁.heap.get? a=some { cls:=.type "list",data:=.seq vs.toArray }) (hi:IntsAre vs ns) (hl:ns.length<=sizeLine) (hr:Qc k callerA)
  (F:∀base:Heap,K.In base->base.Ns mainGlobals mg->JT P w K mg base CX k fa fd [x] sp) (hbind:∀(s:Shared) (u:Value),BindsTo s fd ⟨[u],[]⟩ [(x,u)])
  (hsp:∀H:Hp,ZlK H->SqL K H a (ns.map V.int)->sp [.ref a] H (fun v _=>v=.bl true) fun _ _ _=>False)
  (hCX:∀H e s',CX [] H s₁ (fun _ _ _=>False) e s'->False) :
  codeAny (model P w) callerA (.call (.ref fa) ⟨[.ref a],[]⟩) (fun r s'=>r=.ok (.ret (.bool true))/\OldK s₁.heap s'.heap/\s'.os=s₁.os/\AllBare s'.gens) s₁:=by
 have rv:=Zbj hi
 have lenV:=hi.length
 have core:∀H:Hp,ZlK H->SqL K H a (ns.map V.int)->HOk P w H s₁.heap->(∀b,H b≠none->b=a)->(H a≠none->K.lookup a=none) ->
   codeAny (model P w) callerA (.call (.ref fa) ⟨[.ref a],[]⟩) (fun r s'=>r=.ok (.ret (.bool true))/\OldK s₁.heap s'.heap/\s'.os=s₁.os/\AllBare s'.gens) s₁:=by
  intro H hO hS hok hA hK
  have base_of:∀{b:Addr}{o:Obj},s₁.heap.get? b=some o->H b=none->(Zhx s₁.heap H).get? b=some o:=fun e n=>Zhw e n
  have noA:∀{b:Addr}{o:Obj}{es:Array DictEntry}{ep:Nat},s₁.heap.get? b=some o->o.data=.dict es ep->H b=none:=fun {b o es ep} e d=>by
   cases q:H b with
   |none=>rfl
   |some u =>
    have e':b=a:=hA b (by rw[q];simp)
    subst e'
    rw[ha] at e;cases e
    have d':Data.seq vs.toArray _=Data.dict es ep:=d
    cases d'
  have nsK:∀{b:Addr}{m:Str->Option Value},s₁.heap.Ns b m->(Zhx s₁.heap H).Ns b m:=fun {b m} ⟨o,es,ep,e,d,r⟩=>⟨o,es,ep,base_of e (noA e d),d,r⟩
  have hKb:K.In (Zhx s₁.heap H):=fun b o e=>base_of (KX b o e) (by
   cases q:H b with
   |none=>rfl
   |some u =>
    have e':b=a:=hA b (by rw[q];simp)
    subst e'
    rw[hK (by rw[q];simp)] at e;cases e)
  have hM:Mod K mg (Zhx s₁.heap H):=⟨hKb,nsK hns,⟨mb,nsK hb,hbb⟩,let ⟨mc,h1,h2⟩:=hlim;⟨mc,nsK h1,h2⟩⟩
  have e0:ZlZ P w K mg (Zhx s₁.heap H) callerA [] s₁ H:=⟨rfl,hM,fun b o e=>ZiZ e,Nat.le_of_eq (ZfM _ _),trivial,fun b hb=>absurd (show b∈([]:List Addr) from hb) (by simp),hok,.of_eq hg⟩
  refine codeAny_mono ((F _ hKb (nsK hns)).run callerA [] s₁ H ⟨[.ref a],[]⟩ [.ref a] [.ref a] _ _ hr e0 (hbind s₁ (.ref a)) (.cons rfl .nil) (hsp H hO hS)) fun r s' h=>?_
  cases r with
  |error e=>exact(hCX H e s' h).elim
  |ok fl =>
   cases fl with
   |next=>exact False.elim h
   |brk=>exact False.elim h
   |cont=>exact False.elim h
   |ret u =>
    obtain⟨v,H',os,bare,un,hok',r',q⟩:=h
    have q':v=.bl true:=q
    subst q'
    obtain rfl:u=Value.bool true:=r'
    refine⟨rfl,OldK.of_keep fun b o e=>?_,os,bare⟩
    cases q:H b with
    |none=>exact un.keep b o e q (by intro z;exact absurd (show b∈([]:List Addr) from z) (by simp)) (by simp)
    |some u =>
     rcases hO b with z|⟨ob,xs,z⟩
     ·rw[q] at z;cases z
     ·have z2:=un.frzs b ob _ z
      obtain⟨e1,_⟩:=hok b _ z
      obtain⟨e2,_⟩:=hok' b _ z2
      rw[e] at e1;cases e1
      exact e2
 cases hk:K.lookup a with
 |some o =>
  have e:=KX a o hk
  rw[ha] at e
  cases e
  refine core (fun _=>none) (fun _=>.inl rfl) (.inr ⟨_,vs.toArray,_,hk,rfl,rfl,rfl,by rw[Ztd,lenV];exact hl,by simpa using rv⟩) (fun b u z=>by have z':(none:Option HO)=some u:=z;cases z') (fun b z=>absurd rfl z) fun z=>absurd rfl z
 |none =>
  refine core (fun b=>if b=a then some (.frz { cls:=.type "list",data:=.seq vs.toArray } (.lst (ns.map V.int))) else none) (fun b=>?_) (.inl (.inr ⟨{ cls:=.type "list",data:=.seq vs.toArray },if_pos rfl⟩)) (fun b u z=>?_) (fun b z=>?_) fun _=>hk
  ·by_cases hb:b=a
   ·exact .inr ⟨_,_,if_pos hb⟩
   ·exact .inl (if_neg hb)
  ·by_cases hb:b=a
   ·have z':=(if_pos hb).symm.trans z
    cases z'
    subst hb
    exact⟨ha,by rw[ZsV];exact hl,vs,_,rv,ha⟩
   ·have z':=(if_neg hb).symm.trans z
    cases z'
  ·by_cases hb:b=a
   ·exact hb
   ·exact absurd (if_neg hb) z
noncomputable abbrev KOf {K:W.Frag}{h:Heap} (_:K.In h):W.Frag:=K
theorem Zi3 {l:PySem.W.OpenLaw}{n k:Nat}{q:Program}{loose:List Str}{XP:(Str->Option Value)->Heap->Prop}{YP:World->Heap->Prop}{d:DefRec}{K:Params->W.Frag}{CX:World->CXT}{sp:World->Sp}{x:Str}
  (hn:l.most=some n) (hn2:n<=sizeLine) (hdf:d.params.defaults=[]) (hr:Qc k callerA)
  (hY:∀(w:World) (h:Heap),YP w h->(K w.params).In h)
  (F:∀(w:World) (mg:Str->Option Value) (fa:Addr) (h:Heap),(K w.params).In h->h.Ns mainGlobals mg->mg d.name=some (.ref fa) ->
   ∃fd:FuncData,(∀(s:Shared) (u:Value),BindsTo s fd ⟨[u],[]⟩ [(x,u)]) /\
    ∀base:Heap,(K w.params).In base->base.Ns mainGlobals mg->JT l.prog w (K w.params) mg base (CX w) k fa fd [x] (sp w))
  (hsp:∀(w:World) (H:Hp) (a:Addr) (ns:List Int),ns.length<=n->ZlK H->SqL (K w.params) H a (ns.map V.int)->sp w [.ref a] H (fun v _=>v=.bl true) fun _ _ _=>False)
  (hCX:∀(w:World) (H:Hp) (s:Shared) (e:Value) (s':Shared),CX w [] H s (fun _ _ _=>False) e s'->False) :
  PySem.W.WalkO q loose XP YP l.row.toRowW d [] (fun f vs=>PySem.call f vs):=by
 refine Att.ZcP hn hdf fun w s₀ s₁ mg mb fa o pm cd doc a vs ns G Y ho hd hcd hmg hobj hints hlen hg=>?_
 have KX:=hY w _ Y
 obtain⟨fd,hb,hF⟩:=F w mg fa _ KX G.T.g hmg
 exact Zho KX G.T.g G.T.b G.T.builtins G.T.nolimit hg hobj hints (Ztu hlen hn2) hr hF hb (fun H hO hS=>hsp w H a ns hlen hO hS) fun H e s'=>hCX w H s₁ e s'
theorem ZgB {l:PySem.W.OpenLaw}{n k:Nat}{q:Program}{loose:List Str}{XP:(Str->Option Value)->Heap->Prop}{YP:World->Heap->Prop}{d:DefRec}{K:Params->W.Frag}{CX:CXT}{sp:W.Frag->Sp}{x:Str}
  (hn:l.most=some n) (hn2:n<=sizeLine) (hdf:d.params.defaults=[]) (hr:Qc k callerA)
  (hY:∀(w:World) (h:Heap),YP w h->(K w.params).In h)
  (F:∀(w:World) (mg:Str->Option Value) (fa:Addr) (h:Heap),(K w.params).In h->h.Ns mainGlobals mg->mg d.name=some (.ref fa) ->
   ∃fd:FuncData,(∀(s:Shared) (u:Value),BindsTo s fd ⟨[u],[]⟩ [(x,u)]) /\
    ∀base:Heap,(K w.params).In base->base.Ns mainGlobals mg->JT l.prog w (K w.params) mg base CX k fa fd [x] (sp (K w.params)))
  (hsp:∀(K:PySem.W.Frag) (H:Hp) (a:Addr) (ns:List Int),ns.length<=n->ZlK H->SqL K H a (ns.map V.int)->sp K [.ref a] H (fun v _=>v=.bl true) fun _ _ _=>False)
  (hCX:∀(H:Hp) (s:Shared) (e:Value) (s':Shared),CX [] H s (fun _ _ _=>False) e s'->False) :
  PySem.W.WalkO q loose XP YP l.row.toRowW d [] (fun f vs=>PySem.call f vs):=
 Zi3 (K:=K) (CX:=fun _=>CX) (sp:=fun w=>sp (K w.params)) hn hn2 hdf hr hY F (fun w H a ns h1 h2 h3=>hsp (K w.params) H a ns h1 h2 h3) fun _ H s e s'=>hCX H s e s'
noncomputable def Z1 (s:Stmt):Arguments:=match s with
 |.FunctionDef _ a _ _ _ _ _ _ _ _=>a
 |_=>{ posonlyargs:=[],args:=[],vararg:=none,kwonlyargs:=[],kw_defaults:=[],kwarg:=none,defaults:=[] }
noncomputable def Zt (s:Stmt):List Stmt:=match s with
 |.FunctionDef _ _ b _ _ _ _ _ _ _=>b
 |_=>[]
noncomputable def Zg (s:Stmt):Scope:=match s with
 |.FunctionDef _ _ _ _ _ _ sc _ _ _=>sc
 |_=>{ kind:=.function,names:=[],isGenerator:=false,isCoroutine:=false }
noncomputable abbrev CX0:CXT:=fun _ _ _ _ _ _=>False
noncomputable abbrev E0:XK:=fun _ _ _=>False
theorem Zk9 {X:Cx}:ZdY CX0 X E0:=fun _ _ _ _ _ _ _ h=>h.elim
structure Fun (K:PySem.W.Frag) (x qual:Str) (st:Stmt) (f:Addr) (fd:FuncData):Prop where
 ex:∃(oc:Value) (od:Option Addr) (kV doc pm:Value) (an:Option Addr) (cdv ct:Value) (osl:Array (Option Value)),
  fd=PySem.W.fnOf x qual (Z1 st) (Zt st) (Zg st) .none kV doc pm an cdv ct/\K.lookup f=some ⟨oc,od,.func fd,osl⟩/\PySem.W.codeIn K cdv qual=true
 kp:PySem.W.keepIn K (.ref f)=true
section
variable {P:Program}{w:World}{K:W.Frag}{mg:Str->Option Value}{base:Heap}
theorem Fun.ok {x qual:Str}{st:Stmt}{f:Addr}{fd:FuncData}{N ps:List Str}{k:Nat}{sp:Sp} (F:Fun K x qual st f fd) (S:Zx N ps (Zg st)) (len:∀vs H Q E,sp vs H Q E->vs.length=ps.length)
  (hbody:∀(cdv:Value) (A:Around) (outer:List Env) (s:Shared) (H:Hp) (vs:List V) (Q:VK) (E:XK),Qc k (A.deeper (envOfC qual (Zg st) s.heap.objs.size f cdv))->sp vs H Q E ->
   ∃t,PSs (Zbg CX0 P w K mg base N qual (Zg st) f cdv A outer s H E).nox (Zt st) t/\t { nx:=fun _ H'=>Q .non H',rt:=Q } (VY N vs) H):JT P w K mg base CX0 (k+1) f fd ps sp:=by
 obtain⟨oc,od,kV,doc,pm,an,cdv,ct,osl,rfl,lk,hcd⟩:=F.ex
 refine Zlq lk hcd S len fun A outer s H vs Q E hr hsp=>?_
 obtain⟨t,h,q⟩:=hbody cdv A outer s H vs Q E hr hsp
 exact⟨t,h.nox,q⟩
theorem Fun.binds {x qual:Str}{st:Stmt}{f:Addr}{fd:FuncData}{ps:List Str} (F:Fun K x qual st f fd)
  (h:∀(kV doc pm:Value) (an:Option Addr) (cdv ct:Value) (us:List Value),us.length=ps.length->bindArgs (PySem.W.fnOf x qual (Z1 st) (Zt st) (Zg st) .none kV doc pm an cdv ct) ⟨us,[]⟩=pure (ps.zip us)):ZbV K fd ps []:=by
 obtain⟨oc,od,kV,doc,pm,an,cdv,ct,osl,rfl,lk,hcd⟩:=F.ex
 exact .all (h kV doc pm an cdv ct)
theorem ZS {x qual:Str}{st:Stmt}{f:Addr}{oc:Value}{od an:Option Addr}{osl:Array (Option Value)}{kV doc pm cdv ct:Value} (l:K.lookup f=some ⟨oc,od,.func (PySem.W.fnOf x qual (Z1 st) (Zt st) (Zg st) .none kV doc pm an cdv ct),osl⟩)
  (c:PySem.W.codeIn K cdv qual=true) (k:PySem.W.keepIn K (.ref f)=true):Fun K x qual st f (PySem.W.fnOf x qual (Z1 st) (Zt st) (Zg st) .none kV doc pm an cdv ct):=⟨⟨oc,od,kV,doc,pm,an,cdv,ct,osl,rfl,l,c⟩,k⟩
variable {X:Cx}
theorem pv (i:Nat) {x:Str}{pos:Pos} (hN:X.N[i]?=some x:=by rfl) (hv:Vis X.env.scope x:=by first|exact Or.inl rfl|exact Or.inr (Or.inl rfl)|exact Or.inr (Or.inr rfl)) (hd:(x==("__debug__":Str))=false:=by decide)
  (hcd:(x==("__classdict__":Str))=false:=by decide):PE X (.Name x pos) (QW i):=Zk5 hN hv hd hcd
end
def Zw (H H':Hp):Prop:=∀b o,H b=some o->H' b=some o
theorem Zw.refl (H:Hp):Zw H H:=fun _ _ h=>h
theorem Zw.trans {H H1 H2:Hp} (a:Zw H H1) (b:Zw H1 H2):Zw H H2:=fun c o h=>b c o (a c o h)
theorem Zw.free {H H':Hp} (e:Zw H H') {l:Addr} (h:H' l=Option.none):H l=Option.none:=by
 cases q:H l with
 |none=>rfl
 |some o =>
  rw[e l o q] at h
  cases h
end L2
set_option maxHeartbeats 4000000
namespace L2
open PySem PySem.Spec PyProof.Rows
noncomputable def Zgn (scope:Scope) (env:Env):List (Str×Addr):=
 ((scope.names.filter fun p=>p.2==.free).reverse).map fun p=>(p.1,(env.cells.lookup p.1).getD 0)
theorem U2 {β:Type}:∀{l:List (Str×β)}{a:Str}{b:β},(a,b)∈l->∃c,l.lookup a=some c
 |[],_,_,h=>absurd h (by simp)
 |(n,v)::r,a,b,h=>by
  cases e:a==n with
  |true=>exact⟨v,by simp[ZtC,e]⟩
  |false =>
   rcases ZsZ.mp h with z|z
   ·cases z;simp at e
   ·obtain⟨c,hc⟩:=U2 z
    exact⟨c,by simp[ZtC,e,hc]⟩
theorem ZQ {env:Env}:∀{names:List (Str×NameKind)}{y:Str}{k:NameKind},(∀p∈names,p.2≠.cell) ->
  (names.map fun(n,k)=>if (k==NameKind.free&&env.scope.kind==.function&&env.kindOf n==some .cell) then (n,NameKind.cell) else (n,k)).lookup y=some k ->
  (k=.local->names.lookup y=some .local)/\(k=.cell\/k=.free->names.lookup y=some .free)
 |[],_,_,_,h=>by simp at h
 |(n,k0)::r,y,k,nc,h=>by
  have ih:=@ZQ env r y k (fun p hp=>nc p (Ztx _ hp))
  have nc0:=nc (n,k0) ZtG
  have h':List.lookup y ((if (k0==NameKind.free&&env.scope.kind==.function&&env.kindOf n==some .cell)=true then (n,NameKind.cell) else (n,k0))::(r.map fun(n,k)=>if (k==NameKind.free&&env.scope.kind==.function&&env.kindOf n==some .cell) then (n,NameKind.cell) else (n,k)))=some k:=h
  cases hx:y==n with
  |true =>
   by_cases hc:(k0==NameKind.free&&env.scope.kind==.function&&env.kindOf n==some .cell)=true
   ·rw[if_pos hc] at h'
    simp only[ZtC,hx] at h'
    have hk:NameKind.cell=k:=Option.some.inj h'
    subst hk
    have hf:k0=.free:=by
     simp only[Bool.and_eq_true] at hc
     exact beq_iff_eq.mp hc.1.1
    subst hf
    exact⟨(fun z=>nomatch z),fun _=>by simp[ZtC,hx]⟩
   ·rw[if_neg hc] at h'
    simp only[ZtC,hx] at h'
    have hk:k0=k:=Option.some.inj h'
    subst hk
    refine⟨fun z=>by subst z;simp[ZtC,hx],fun z=>?_⟩
    rcases z with z|z
    ·exact absurd z nc0
    ·subst z;simp[ZtC,hx]
  |false =>
   by_cases hc:(k0==NameKind.free&&env.scope.kind==.function&&env.kindOf n==some .cell)=true
   ·rw[if_pos hc] at h'
    simp only[ZtC,hx] at h'
    have:=ih h'
    simpa[ZtC,hx] using this
   ·rw[if_neg hc] at h'
    simp only[ZtC,hx] at h'
    have:=ih h'
    simpa[ZtC,hx] using this
noncomputable def ZcG (N:List Str) (sc scope:Scope) (x:Str):Bool:=
 (scope.names.all fun p=>!(p.2==.cell))&&(scope.kind==.function)&&(scope.names.all fun p=>!(p.2==.local) || scope.names.lookup p.1==some .local)&&(scope.names.lookup x==some .local)
  && (N.all fun y=>!(scope.names.lookup y==some .local))&&(scope.names.all fun p=>!(p.2==.free) || sc.names.lookup p.1==some .cell || sc.names.lookup p.1==some .free)
structure Za3 (N:List Str) (sc scope:Scope) (x:Str):Prop where
 nc:∀p∈scope.names,p.2≠.cell
 kind:scope.kind=.function
 locs:∀p∈scope.names,p.2=.local->scope.names.lookup p.1=some .local
 var:scope.names.lookup x=some .local
 noN:∀y∈N,scope.names.lookup y≠some .local
 fr:∀p∈scope.names,p.2=.free->sc.names.lookup p.1=some .cell\/sc.names.lookup p.1=some .free
theorem Za3.of {N:List Str}{sc scope:Scope}{x:Str} (h:ZcG N sc scope x=true):Za3 N sc scope x:=by
 unfold ZcG at h
 simp only[Bool.and_eq_true,ZtD,Bool.or_eq_true,Bool.not_eq_true',beq_iff_eq,beq_eq_false_iff_ne] at h
 obtain⟨⟨⟨⟨⟨h1,h2⟩,h3⟩,h4⟩,h5⟩,h6⟩:=h
 refine⟨h1,h2,fun p hp e=>?_,h4,h5,fun p hp e=>?_⟩
 ·rcases h3 p hp with z|z
  ·exact absurd e z
  ·exact z
 ·rcases h6 p hp with (z|z)|z
  ·exact absurd e z
  ·exact .inl z
  ·exact .inr z
section
variable {X:Cx}{pins:List (Addr×Obj)}{σ:St}{H:Hp}{s:Shared}
theorem Inv.adopt {D:Addr}{ys:List V}{its:List Value}{n:Nat} (I:Inv X pins σ H s) (hn:H D=none) (h1:X.s₀.heap.objs.size<=D) (hL:D≠X.env.locals) (hc:∀x c,X.env.cells.lookup x=some c->c≠D)
  (hp:∀p∈X.pn++pins,p.1≠D) (ho:s.heap.get? D=some { cls:=.type "list",data:=.seq its.toArray n }) (r:ZX ys its) (hz:ys.length<=sizeLine):Inv X pins σ (upd H D (.lst ys)) s:=by
 refine I.step (h':=s.heap) (g':=s.gens) (d':=s.drawn) (t':=s.toks) (ch:=[D]) (fun b hb=>?_) (fun b o _ _ _ e _=>e) (fun b o _ _ _ e _=>⟨o.slots,e⟩) (fun b o hb _ e=>?_) (fun b o _ e=>⟨o,e⟩)
  (fun b xs e=>?_) (fun b o u e=>?_) (fun b ps e=>⟨#[], ?_⟩) (fun m hm=>hm) (fun b u e=>?_) I.bare
 ·have e:b=D:=by simpa using hb
  subst e
  exact⟨.inr h1,hL,hc,hp⟩
 ·rw[Zr (by simpa using hb)];exact e
 ·rw[Zr (ZP e hn)];exact e
 ·rw[Zr (ZP e hn)];exact e
 ·rw[Zr (ZP e hn),e];simp
 ·by_cases hb:b=D
  ·subst hb
   rw[Z2] at e;cases e
   exact⟨hz,its,n,r,ho⟩
  ·rw[Zr hb] at e
   exact(I.hok b u e).stay (fun c v _ q=>q) (fun c q=>by rw[Zr (ZP q hn)];exact q) fun c xs q=>by rw[Zr (ZP q hn)];exact q
variable {scope:Scope}
theorem ZdR {y:Str} (h:scope.names.lookup y=some .free):∃c,(Zgn scope X.env).lookup y=some c:=by
 have hm:=PySem.mem_of_lookup h
 refine U2 (b:=(X.env.cells.lookup y).getD 0) ?_
 unfold Zgn
 exact Ztm.mpr ⟨(y,.free),List.mem_reverse.mpr (Zug.mpr ⟨hm,rfl⟩),rfl⟩
end
end L2
namespace HL
open PySem PyProof.Rows
section
open PySem.SeqAt
open PySem.AutoSeq1 (wpAny_loadPart')
open PySem.MeetsSeq PySem.MeetsSeq2 PySem.MeetsSeq3 SeqRoads2
theorem Uj:∀{vs:List Value}{ns:List Int}{i:Nat} (_:IntsAre vs ns) (h1:i<vs.length) (h2:i<ns.length),∃t,vs[i]=Value.int ns[i] t
 |_,_,0,.cons n t _,_,_=>⟨t,rfl⟩
 |_,_,i+1,.cons n t h,h1,h2=>by
  obtain⟨u,e⟩:=Uj (i:=i) h (by simpa using h1) (by simpa using h2)
  exact⟨u,by simpa using e⟩
theorem Zjf (l b:Addr) (items items2:Array Value) (n n2:Nat) (dd dd2:Option Addr) (sl sl2:Array (Option Value)) (ns ms:List Int) (hi:IntsAre items.toList ns) (hj:IntsAre items2.toList ms) (k:Nat) :
  ∀i:Nat,min items.size items2.size-i=k->i<=min items.size items2.size->Meets (Builtin.«list.__eq__.loop» ⟨[.ref l,.ref b,rawInt i,rawInt 0],[]⟩)
   (fun A R s=>s.heap.get? l=some { cls:=.type "list",dict:=dd,data:=.seq items n,slots:=sl }/\s.heap.get? b=some { cls:=.type "list",dict:=dd2,data:=.seq items2 n2,slots:=sl2 } /\
    R (.ok (.ret (.bool (HT.ZD (ns.drop i) (ms.drop i))))) s):=by
 have z1:items.size=ns.length:=by rw[<- hi.length];simp
 have z2:items2.size=ms.length:=by rw[<- hj.length];simp
 induction k with
 |zero =>
  intro i hk hle prog w A R s h
  obtain⟨hp,g,d,tk,os⟩:=s;obtain⟨hl,hb,h⟩:=h
  have hmin:min items.size items2.size=i:=by omega
  have fin:HT.ZD (ns.drop i) (ms.drop i)=decide (items.size<items2.size):=by
   rw[z1,z2] at hmin ⊢
   by_cases h1:ns.length<=i
   ·rw[ZtN h1]
    by_cases h2:ms.length<=i
    ·rw[ZtN h2,HT.ZaP]
     exact(decide_eq_false (by omega)).symm
    ·rw[Zth (by omega),HT.Zaa]
     exact(decide_eq_true (by omega)).symm
   ·rw[Zth (by omega),ZtN (l:=ms) (by omega),HT.Zab]
    exact(decide_eq_false (by omega)).symm
  rw[fin] at h
  wp_walk using wpAny_loadPart' hl,wpAny_loadPart' hb
  by_cases h1:items.size<=i
  ·have hi1:items[((i:Nat):Int).toNat]?=none:=by simp;omega
   rw[hi1]
   cases h2:items2[((i:Nat):Int).toNat]? <;>
   ·wp_walk using wpAny_loadPart' hl,wpAny_loadPart' hb
    exact h
  ·have hi1:items[((i:Nat):Int).toNat]?=some (items[i]'(by omega)):=by simp
   have hi2:items2[((i:Nat):Int).toNat]?=none:=by simp;omega
   rw[hi1,hi2]
   wp_walk using wpAny_loadPart' hl,wpAny_loadPart' hb
   exact h
 |succ k ih =>
  intro i hk hle prog w A R s h
  obtain⟨hp,g,d,tk,os⟩:=s;obtain⟨hl,hb,h⟩:=h
  wp_walk using wpAny_loadPart' hl,wpAny_loadPart' hb
  have hlt:i<items.size:=by omega
  have hlt2:i<items2.size:=by omega
  have hn1:i<ns.length:=by omega
  have hn2:i<ms.length:=by omega
  have hi1:items[((i:Nat):Int).toNat]?=some items[i]:=by simp[hlt]
  have hi2:items2[((i:Nat):Int).toNat]?=some items2[i]:=by simp[hlt2]
  have hc:((i:Int)+1)=((i+1:Nat):Int):=by push_cast;rfl
  obtain⟨t,e1⟩:∃t,items[i]=Value.int ns[i] t:=by
   obtain⟨t,e⟩:=Uj hi (i:=i) (by simpa using hlt) hn1
   exact⟨t,by simpa using e⟩
  obtain⟨u,e2⟩:∃t,items2[i]=Value.int ms[i] t:=by
   obtain⟨t,e⟩:=Uj hj (i:=i) (by simpa using hlt2) hn2
   exact⟨t,by simpa using e⟩
  rw[Zth hn1,Zth hn2,HT.JL] at h
  rw[hi1,hi2,e1,e2]
  obtain⟨e,he,hiff⟩:=HT.Zh5 A.in1 ⟨hp,g,d,tk,os⟩ ns[i] t ms[i] u
  refine wpAny_bind (he prog w _ _ ?_)
  cases e with
  |true =>
   rw[if_pos (hiff.mp rfl)] at h
   wp_walk
   rw[hc]
   exact⟨plainId_quiet plain_eq_loop _,codeAny_builtin entry_eq_loop (by
    rw[Around.under_plainId plain_eq_loop _]
    exact ih (i+1) (by omega) (by omega) prog w A R _ ⟨hl,hb,h⟩)⟩
  |false =>
   rw[if_neg (fun q=>absurd (hiff.mpr q) Bool.false_ne_true)] at h
   wp_walk using wpAny_loadPart' hl,wpAny_loadPart' hb
   rw[hi1,hi2,e1,e2]
   have hri:=HT.ZgP A.in1 ⟨hp,g,d,tk,os⟩ ns[i] t ms[i] u prog w
   wp_walk using hri
   exact h
theorem UZ (l b:Addr) (items items2:Array Value) (n n2:Nat) (dd dd2:Option Addr) (sl sl2:Array (Option Value)) (ns ms:List Int) (hi:IntsAre items.toList ns) (hj:IntsAre items2.toList ms) :
  Meets (Builtin.«list.__lt__» ⟨[.ref l,.ref b],[]⟩)
   (fun _ R s=>s.heap.get? l=some { cls:=.type "list",dict:=dd,data:=.seq items n,slots:=sl }/\s.heap.get? b=some { cls:=.type "list",dict:=dd2,data:=.seq items2 n2,slots:=sl2 } /\
    R (.ok (.ret (.bool (HT.ZD ns ms)))) s):=by
 intro prog w A R s h
 obtain⟨hp,g,d,tk,os⟩:=s;obtain⟨hl,hb,h⟩:=h
 have f3:=AutoSeq1.sub_list_list
 wp_walk using wpAny_loadPart' hl,wpAny_loadPart' hb
 exact⟨plainId_quiet plain_eq_loop _,codeAny_builtin entry_eq_loop (by
  rw[Around.under_plainId plain_eq_loop _]
  exact Zjf l b items items2 n n2 dd dd2 sl sl2 ns ms hi hj _ 0 rfl (Ztp _) prog w A R _ ⟨hl,hb,by simpa using h⟩)⟩
end
section
variable {prog:Program}{w:World}{A:Around}{E:Value->Shared->Prop}{s:Shared}
theorem Zef {l b:Addr}{items items2:Array Value}{ns ms:List Int}{Q:Value->Shared->Prop} (hl:s.heap.IsList l items) (hb:s.heap.IsList b items2) (hi:IntsAre items.toList ns) (hj:IntsAre items2.toList ms)
  (hu:A.units<cLine) (h:Q (.bool (HT.ZD ns ms)) s):wpAny (model prog w) A (richCompare .Lt (.ref l) (.ref b)) Q E s:=by
 obtain⟨⟨cls,dd,data,sl⟩,ho,hc,n,hd⟩:=id hl
 obtain⟨⟨cls2,dd2,data2,sl2⟩,ho2,hc2,n2,hd2⟩:=id hb
 simp only at hc hd hc2 hd2
 subst hc hd hc2 hd2
 exact richCompare_meets_room (op:=.Lt) ⟨_,ho,rfl⟩ ⟨_,ho2,rfl⟩ PySem.F.slot_list_lt PySem.F.entry_list_lt (PySem.F.args_list_lt_2 _ _) (UZ l b items items2 n n2 dd dd2 sl sl2 ns ms hi hj)
  ⟨ho,ho2,show Value.bool (HT.ZD ns ms)≠Value.notImplemented/\Q (.bool (HT.ZD ns ms)) s from ⟨(fun x=>nomatch x),h⟩⟩ hu
end
end HL
namespace L2
open PySem PySem.Spec PyProof.Rows
section
variable {X:Cx}
noncomputable def ZiI (K:W.Frag) (g:List Int->List Int->Bool):R2:=fun x y H Q=>∃a b ns ms,x=.ref a/\y=.ref b/\SqL K H a (ns.map V.int)/\SqL K H b (ms.map V.int)/\Q (.bl (g ns ms)) H
theorem ZkQ (hu:X.A.units+1<cLine):OpR X (compareOp .Lt) (ZiI X.K HT.ZD):=by
 intro pins s σ H x y v u Q I rx ry h
 obtain⟨a,b,ns,ms,rfl,rfl,ha,hb,q⟩:=h
 cases rx;cases ry
 obtain⟨its,r1,p1,_⟩:=I.list ha
 obtain⟨its2,r2,p2,_⟩:=I.list hb
 exact HL.Zef p1.isList p2.isList (by simpa using JM r1) (by simpa using JM r2) (by omega) ⟨.bl (HT.ZD ns ms),H,I,rfl,q⟩
theorem ZhJ (hc:X.calm=true):JJ X (.builtin "sum") (fun xs H Q=>∃p,∃ns:List Int,xs=[.ref p]/\SqL X.K H p (ns.map V.int)/\Q (.int ns.sum) H):=by
 intro pins s σ H xs us Q I r h
 obtain⟨p,ns,rfl,hq,q⟩:=h
 obtain⟨u,rfl,rx⟩:=QY r
 cases rx
 obtain⟨its,r',pl,hz⟩:=I.list hq
 have hi:IntsAre its ns:=JM r'
 obtain⟨xs,hx⟩:=hi.allInts.items
 have hl':s.heap.IsList p (intItems xs):=hx▸pl.isList
 refine sum_intListG (I.ok.hd hc) hl' fun h' tk t' hk=>?_
 have e1:ns=xs.toList.map (·.1):=by
  rw[<- nums_intItems,<- hx]
  exact(show numsOf its.toArray.toList=ns from hi.numsOf).symm
 have e2:preSum (numAt xs) xs.size=ns.sum:=by
  rw[preSum_eq,Ztw (by simp),e1]
 rw[e2]
 exact⟨.int ns.sum,H,I.kept hk,⟨_,rfl⟩,q⟩
theorem QV:∀{bs:List Bool}{us:List Value},ZX (bs.map V.bl) us->LSm.BoolsAre us bs
 |[],_,.nil=>.nil
 |b::bs,_,.cons r t=>by
  cases r
  exact .cons b (QV t)
theorem ZhK (hc:X.calm=true):JJ X (.builtin "all") (fun xs H Q=>∃p,∃bs:List Bool,xs=[.ref p]/\SqL X.K H p (bs.map V.bl)/\Q (.bl (bs.all id)) H):=by
 intro pins s σ H xs us Q I r h
 obtain⟨p,bs,rfl,hq,q⟩:=h
 obtain⟨u,rfl,rx⟩:=QY r
 cases rx
 obtain⟨its,r',pl,hz⟩:=I.list hq
 have hb:=QV r'
 have hlt:p<s.heap.objs.size:=by obtain⟨_,e,_⟩:=pl.isList;exact Heap.lt_size e
 refine call_all_walk (wpAny_pyIter_list pl.isList ?_)
 refine⟨s.heap.objs.size,[s.heap.objs.size,p],[s.heap.objs.size],its.toArray.size,_,_,fun i=>(bs[i]?).getD true,rfl,Walks.list (A:=X.A.in1) (I.ok.hd hc) _ p (Zt5 hlt) its.toArray,
  ⟨⟨_,Heap.get?_push_size _ rfl,rfl,rfl⟩,pl.isList.push _⟩,fun i v s' Q' E' hP hQ=>?_,fun h' tk hk=>?_⟩
 ·obtain⟨b,e,rfl⟩:=hb.get i v (by simpa using hP)
  dsimp only at hQ
  rw[e,Zu8] at hQ
  exact wpAny_truthy_bool hQ
 ·rw[Ztd,hb.length,LSm.range_all]
  exact⟨.bl (bs.all id),H,I.kept (LSm.kept_iter hk),rfl,q⟩
end
end L2
namespace HL
open PySem PyProof.Rows
section
end
section
open PySem.SeqAt
open PySem.AutoSeq1 (wpAny_loadPart')
open PySem.MeetsSeq PySem.MeetsSeq2 PySem.MeetsSeq3
end
end HL
namespace HL
open PySem
theorem Qa:∀a:List Int,HT.ZD a a=false
 |[]=>rfl
 |x::xs=>by rw[HT.JL,if_pos rfl];exact Qa xs
theorem Uh:∀{a b c:List Int},HT.ZD a b=true->HT.ZD b c=true->HT.ZD a c=true
 |[],[],_,h,_=>by simp[HT.ZD] at h
 |[],_::_,[],_,h=>by simp[HT.ZD] at h
 |[],_::_,_::_,_,_=>rfl
 |_::_,[],_,h,_=>by simp[HT.ZD] at h
 |_::_,_::_,[],_,h=>by simp[HT.ZD] at h
 |x::xs,y::ys,z::zs,h1,h2=>by
  rw[HT.JL] at h1 h2 ⊢
  by_cases e1:x=y
  ·rw[if_pos e1] at h1
   subst e1
   by_cases e2:x=z
   ·rw[if_pos e2] at h2 ⊢
    exact Uh h1 h2
   ·rw[if_neg e2] at h2 ⊢
    exact h2
  ·rw[if_neg e1] at h1
   have h1':=of_decide_eq_true h1
   by_cases e2:y=z
   ·subst e2
    rw[if_neg e1]
    exact h1
   ·rw[if_neg e2] at h2
    have h2':=of_decide_eq_true h2
    rw[if_neg (by omega)]
    exact decide_eq_true (by omega)
theorem JP:∀{a b:List Int},HT.ZD a b=false->HT.ZD b a=false->a=b
 |[],[],_,_=>rfl
 |[],_::_,h,_=>by simp[HT.ZD] at h
 |_::_,[],_,h=>by simp[HT.ZD] at h
 |x::xs,y::ys,h1,h2=>by
  rw[HT.JL] at h1 h2
  by_cases e:x=y
  ·subst e
   rw[if_pos rfl] at h1 h2
   rw[JP h1 h2]
  ·rw[if_neg e] at h1
   rw[if_neg (Ne.symm e)] at h2
   have:=of_decide_eq_false h1
   have:=of_decide_eq_false h2
   omega
end HL
namespace L2
open PySem PySem.Spec PyProof.Rows
section
variable {X:Cx}
theorem Zgt (hc:X.calm=true):JJ X (.builtin "min") (fun xs H Q=>∃p,∃ns:List Int,xs=[.ref p]/\SqL X.K H p (ns.map V.int)/\0<ns.length/\∀m,m∈ns->(∀a∈ns,m<=a)->Q (.int m) H):=by
 intro pins s σ H xs us Q I r h
 obtain⟨p,ns,rfl,hq,hne,q⟩:=h
 obtain⟨u,rfl,rx⟩:=QY r
 cases rx
 obtain⟨its,r',pl,hz⟩:=I.list hq
 have hi:IntsAre its ns:=JM r'
 obtain⟨zs,e⟩:=hi.allInts.items
 have hns:ns=zs.toList.map (·.1):=by rw[<- hi.numsOf,<- nums_intItems,<- e]
 have hsz:0<zs.size:=by
  have h3:=hne
  rw[hns,ZsV,ZsX] at h3
  exact h3
 have hl:=pl.isList
 rw[e] at hl
 refine min_intList (I.ok.hd hc) hl hsz fun v h' tk hv hk=>?_
 obtain⟨t,rfl⟩:=intItems_at hv
 obtain⟨h1,h2⟩:=argBest_lt (numAt zs) (zs.size-1)
 refine⟨.int _,H,I.kept hk,⟨_,rfl⟩,q _ ?_ fun a ha=>?_⟩
 ·rw[hns,numAt_eq];exact getD_mem (by rw[ZsV,ZsX];omega)
 ·rw[hns] at ha
  obtain⟨j,hj,rfl⟩:=mem_getD ha
  rw[ZsV,ZsX] at hj
  rw[<- numAt_eq];exact h2 j (by omega)
def Zk0 (K:W.Frag):List V->Hp->VK->Prop:=fun xs H Q=>∃p,∃ns:List Int,xs=[.ref p]/\SqL K H p (ns.map V.int)/\0<ns.length/\∀m,m∈ns->(∀a∈ns,m<=a)->Q (.int m) H
end
def Dfn (K:W.Frag) (mg:Str->Option Value) (x:Str) (st:Stmt):Prop:=∃f fd,Fun K x x st f fd/\mg x=some (.ref f)
noncomputable abbrev Zu (x:Str) (st:Stmt) (ps:List Str):Prop:=∀(kV doc pm:Value) (an:Option Addr) (cdv ct:Value) (us:List Value),us.length=ps.length ->
 bindArgs (PySem.W.fnOf x x (Z1 st) (Zt st) (Zg st) .none kV doc pm an cdv ct) ⟨us,[]⟩=pure (ps.zip us)
def Ok (P:Program) (w:World) (K:W.Frag) (mg:Str->Option Value) (base:Heap) (k:Nat) (x:Str) (ps:List Str) (sp:Sp):Prop:=
 ∃f fd,JT P w K mg base CX0 k f fd ps sp/\mg x=some (.ref f)/\PySem.W.keepIn K (.ref f)=true/\ZbV K fd ps []
theorem UY {P:Program}{w:World}{K:W.Frag}{mg:Str->Option Value}{base:Heap}{k:Nat}{x:Str}{st:Stmt}{ps:List Str}{sp:Sp} (d:Dfn K mg x st) (b:Zu x st ps)
  (h:∀{f fd},Fun K x x st f fd->JT P w K mg base CX0 k f fd ps sp):Ok P w K mg base k x ps sp:=by
 obtain⟨f,fd,F,hm⟩:=d
 exact⟨f,fd,h F,hm,F.kp,F.binds b⟩
section
variable {X:Cx}{k:Nat}{x:Str}{ps:List Str}{sp:Sp}{p pos:Pos}{e:Expr}{es:List Expr}{t:TA}
noncomputable def UV (sp:Sp) (t:TA):TE:=fun σ H Q=>t σ H fun vs H1=>sp vs H1 Q E0
theorem Zy (G:Ok X.prog X.w X.K X.mg X.base k x ps sp) (hr:Qc k X.A) (hg:Gl X x) (ha:PA X (e::es) t) (hdb:(x==("__debug__":Str))=false:=by decide)
  (he:starEach (e::es) X.env=(false,eval e X.env)::starEach es X.env:=by rfl) (hpl:(backTo pos (starEach es X.env)).any (·.1)=false:=by rfl):PE X (.Call (.Name x p) (e::es) [] pos) (UV sp t):=by
 obtain⟨f,fd,F,hm,hk,hb⟩:=G
 intro pins s σ H Q I h
 refine ZiO (CX:=CX0) (E:=E0) (dvs:=[]) F hr hg hm hk hb .nil Zk9 ha hdb he hpl pins s σ H Q I ?_
 have e:(fun vs H1=>sp (vs++[]) H1 Q E0)=fun vs H1=>sp vs H1 Q E0:=by funext vs H1;rw[ZtS]
 show t σ H (fun vs H1=>sp (vs++[]) H1 Q E0)
 rw[e]
 exact h
theorem Zfi (G:Ok X.prog X.w X.K X.mg X.base k x ps sp) (hr:Qc k X.A) (hg:Gl X x) (hdb:(x==("__debug__":Str))=false:=by decide):PE X (.Call (.Name x p) [] [] pos) (UV sp Zbe):=by
 obtain⟨f,fd,F,hm,hk,hb⟩:=G
 exact ZgT (CX:=CX0) (E:=E0) (dvs:=[]) F hr hg hm hk hb .nil Zk9 hdb
theorem ZaH {i:Int} (hm:∃t,X.mg x=some (.int i t)) (hg:Gl X x) (hd:(x==("__debug__":Str))=false:=by decide):PE X (.Name x pos) (tC (.int i)):=by
 obtain⟨t,hm⟩:=hm
 exact ZiN (v:=.int i) hg hm ⟨t,rfl⟩ hd
theorem Zh1:ZmH X (Zk2 X.K):=by
 intro pins s σ H o i ov iv Q I ro ri h
 obtain⟨p,xs,i,z,rfl,rfl,hq,he,q⟩:=h
 cases ro
 obtain⟨t,rfl⟩:=ri
 obtain⟨its,r,pl,hz⟩:=I.list hq
 obtain⟨j,h1,h2,h3,h4,h5⟩:=Zbd he
 obtain⟨w,ew,rw'⟩:=r.get h2
 have hl:=r.length
 have hn:=Zaq
 have fin:EP X pins σ Q w s:=⟨z,H,I,rw',q⟩
 by_cases h0:0<=i
 ·have hj:i.toNat=j:=by
   rw[seqIndex_of h0 h5] at h1
   exact Option.some.inj h1
  exact wpAny_getItem_list pl.isList h0 (by omega) (by rw[hj];simpa using ew) fin
 ·have hj:(i+(its.toArray.size:Int)).toNat=j:=by
   rw[seqIndex_neg (by omega) h4] at h1
   rw[Ztd,<- hl]
   exact Option.some.inj h1
  exact wpAny_getItem_list_neg pl.isList (by omega) (by rw[Ztd]<;>omega) (by omega) (by rw[hj];simpa using ew) fin
end
theorem Zgv {X:Cx}:JJ X (.builtin "len") (fun xs H Q=>∃p ys,xs=[.ref p]/\(SqL X.K H p ys\/SqT X.K H p ys)/\Q (.int ys.length) H):=ZbP
theorem Jk:bootBuiltins "len"=some (.builtin "len"):=by decide +kernel
theorem Zz:bootBuiltins "isinstance"=some (.builtin "isinstance"):=by decide +kernel
theorem Za2:bootBuiltins "sum"=some (.builtin "sum"):=by decide +kernel
theorem ZlF:bootBuiltins "all"=some (.builtin "all"):=by decide +kernel
theorem ZlD:bootBuiltins "min"=some (.builtin "min"):=by decide +kernel
theorem J4:bootBuiltins "list"=some (.type "list"):=by decide +kernel
theorem ZdW:bootBuiltins "int"=some (.type "int"):=by decide +kernel
theorem ZcM:bootBuiltins "bool"=some (.type "bool"):=by decide +kernel
theorem ZdV:bootBuiltins "tuple"=some (.type "tuple"):=by decide +kernel
section
variable {X:Cx}{K:W.Frag}
theorem Zq (e:X.K=K:=by rfl):IxR X (rIx K):=by subst e;exact Zlg
theorem Z3 (e:X.K=K:=by rfl):JJ X (.builtin "len") (fun xs H Q=>∃p ys,xs=[.ref p]/\(SqL K H p ys\/SqT K H p ys)/\Q (.int ys.length) H):=by subst e;exact Zgv
theorem Vk (hc:X.calm=true) (e:X.K=K:=by rfl):JJ X (.builtin "sum") (fun xs H Q=>∃p,∃ns:List Int,xs=[.ref p]/\SqL K H p (ns.map V.int)/\Q (.int ns.sum) H):=by subst e;exact ZhJ hc
theorem Zgx (hc:X.calm=true) (e:X.K=K:=by rfl):JJ X (.builtin "all") (fun xs H Q=>∃p,∃bs:List Bool,xs=[.ref p]/\SqL K H p (bs.map V.bl)/\Q (.bl (bs.all id)) H):=by subst e;exact ZhK hc
theorem J3 (e:X.K=K:=by rfl):JJ X (.type "list") (fun xs H Q=>∃p ys,xs=[.ref p]/\(SqL K H p ys\/SqT K H p ys)/\∀l,H l=none->Q (.ref l) (upd H l (.lst ys))):=by subst e;exact ZbN
theorem ZaC (e:X.K=K:=by rfl):SlR X (Zmm K):=by subst e;exact ZiE
theorem ZfO (e:X.K=K:=by rfl):ZmH X (Zk2 K):=by subst e;exact Zh1
theorem ZT {tg l:Expr}{tl:TE} (hl:PE X l tl) (e:X.K=K:=by rfl):PI X tg l (ZfL K tl):=by subst e;exact ZiM hl
variable {u:TS}{H:Hp}{b:TA}
theorem ZdE {n:Nat}{k:Int} (h0:0<=k) (h1:k<n):ixN n k=some k.toNat:=by unfold ixN;rw[if_pos h0,if_pos h1]
theorem Zw.upd {H H':Hp}{p:Addr}{o:HO} (h:Zw H H') (hp:H p=none):Zw H (upd H' p o):=fun b u e=>by
 rw[Zr (ZP e hp)]
 exact h b u e
theorem Zw.new {H:Hp}{p:Addr}{o:HO} (hp:H p=none):Zw H (L2.upd H p o):=Zw.upd (Zw.refl H) hp
theorem U3 {n:Nat} (h:n<=1000):n<=sizeLine:=Ztu h (by decide)
end
inductive Sh where
 |dk (ks:List Key)|dt (ks:List (List Key))|ob (n:Str) (fs:List Str)
inductive PV where
 |non|bl (b:Bool)|int (i:Int)|str (x:Str)|lst (xs:List PV)|tup (xs:List PV)
  |exc (n:Str)
  |exa (n:Str) (i:Int)
  |box (p:Option Addr) (s:Sh) (xs:List PV)
mutual
noncomputable def PV.flat:PV->Bool
 |.lst _=>false
 |.tup xs=>PV.flats xs
 |.non=>true
 |.bl _=>true
 |.int _=>true
 |.str _=>true
 |.exc _=>true
 |.exa _ _=>true
 |.box _ _ _=>false
noncomputable def PV.flats:List PV->Bool
 |[]=>true
 |x::xs=>x.flat&&PV.flats xs
end
def KL (K:W.Frag) (a:Addr) (xs:List V):Prop:=
 ∃(o:Obj) (its:Array Value) (n:Nat),K.lookup a=some o/\o.cls=.type "list"/\o.dict=none/\o.data=.seq its n/\its.size<=sizeLine/\ZX xs its.toList
noncomputable def ImO:HO->Prop
 |.tup _=>True
 |.frz _ _=>True
 |.xd _=>True
 |_=>False
def Im (K:W.Frag) (H:Hp) (a:Addr) (u:HO):Prop:=H a=some u/\ImO u
noncomputable def Lvo:HO->Prop
 |.lst _=>True
 |.dK _=>True
 |.dT _=>True
 |.ins _ _ _=>True
 |_=>False
noncomputable abbrev LvO:={ u:HO // Lvo u }
def ZjN (K:W.Frag) (n:Str) (C:Addr):Prop:=PySem.W.nsIn K mainGlobals n=some (some (.ref C))
def ZlM (K:W.Frag) (H:Hp) (n:Str) (v:V):Prop:=∃a o C,v=.ref a/\Im K H a (.frz o (.own a))/\o.cls=.ref C/\o.dict=none/\PySem.W.notCls o=true/\ZjN K n C
def ZlN (K:W.Frag) (H:Hp) (n:Str) (i:Int) (v:V):Prop:=∃a o C d fs,v=.ref a/\Im K H a (.frz o (.own a))/\Im K H d (.xd fs)/\o.cls=.ref C/\o.dict=some d/\PySem.W.notCls o=true/\ZjN K n C/\fs=[(("at":Str),V.int i)]
noncomputable def ZlP (K:W.Frag):Sh->List V->HO->Prop
 |.dk ks,vs,u=>ks.length=vs.length/\u=.dK (ks.zip vs)
 |.dt ks,vs,u=>ks.length=vs.length/\u=.dT (ks.zip vs)
 |.ob n fs,vs,u=>fs.length=vs.length/\∃C dx,u=.ins C dx (fs.zip vs)/\ZjN K n C
def ZlX (p:Option Addr) (a:Addr):Prop:=match p with
 |none=>True
 |some b=>a=b
theorem ZlP.lv {K:W.Frag}{s:Sh}{vs:List V}{u:HO} (h:ZlP K s vs u):Lvo u:=by
 cases s with
 |dk ks=>obtain⟨_,rfl⟩:=h;trivial
 |dt ks=>obtain⟨_,rfl⟩:=h;trivial
 |ob n fs=>obtain⟨_,C,dx,rfl,_⟩:=h;trivial
theorem ZaO {u o:HO} (h:Lvo u) (h':ImO o):o≠u:=by
 intro e;subst e
 cases o<;>first|exact h|exact h'
mutual
noncomputable def Rep (K:W.Frag) (H:Hp) (S:Addr->Prop):PV->V->Prop
 |.non,v=>v=.non
 |.bl b,v=>v=.bl b
 |.int i,v=>v=.int i
 |.str x,v=>v=.str x
 |.exc n,v=>ZlM K H n v
 |.exa n i,v=>ZlN K H n i v
 |.box p s xs,v=>∃a vs u,v=.ref a/\(Rd H a u/\S a)/\(ZlX p a/\ZlP K s vs u)/\Reps K H S xs vs
 |.lst xs,v=>∃a vs,v=.ref a/\((Rd H a (.lst vs)/\S a)\/KL K a vs)/\Reps K H S xs vs
 |.tup xs,v=>∃a vs,v=.ref a/\Im K H a (.tup vs)/\Reps K H S xs vs
noncomputable def Reps (K:W.Frag) (H:Hp) (S:Addr->Prop):List PV->List V->Prop
 |[],vs=>vs=[]
 |x::xs,vs=>∃v r,vs=v::r/\Rep K H S x v/\Reps K H S xs r
end
mutual
noncomputable def ZW (K:W.Frag) (H:Hp):PV->V->List Addr->Prop
 |.non,v,F=>v=.non/\F=[]
 |.bl b,v,F=>v=.bl b/\F=[]
 |.int i,v,F=>v=.int i/\F=[]
 |.str x,v,F=>v=.str x/\F=[]
 |.exc n,v,F=>ZlM K H n v/\F=[]
 |.exa n i,v,F=>ZlN K H n i v/\F=[]
 |.box p s xs,v,F=>∃a vs u G,v=.ref a/\H a=some u/\(ZlX p a/\ZlP K s vs u)/\Trees K H xs vs G/\a ∉ G/\F=a::G
 |.lst xs,v,F=>∃a vs G,v=.ref a/\H a=some (.lst vs)/\Trees K H xs vs G/\a ∉ G/\F=a::G
 |.tup xs,v,F=>∃a vs,v=.ref a/\Im K H a (.tup vs)/\Trees K H xs vs F
noncomputable def Trees (K:W.Frag) (H:Hp):List PV->List V->List Addr->Prop
 |[],vs,F=>vs=[]/\F=[]
 |x::xs,vs,F=>∃v r G1 G2,vs=v::r/\ZW K H x v G1/\Trees K H xs r G2/\(∀a∈G1,a ∉ G2)/\F=G1++G2
end
section
variable {K:W.Frag}{H H':Hp}{S S':Addr->Prop}
mutual
theorem Rep.mono (h1:∀a u,S a->Rd H a u->Rd H' a u/\S' a) (h2:∀a u,Im K H a u->Im K H' a u):∀{x:PV}{v:V},Rep K H S x v->Rep K H' S' x v
 |.non,_,h=>h
 |.bl _,_,h=>h
 |.int _,_,h=>h
 |.str _,_,h=>h
 |.exc n,_,h=>let ⟨a,o,C,e1,e2,e3⟩:=h;⟨a,o,C,e1,h2 a _ e2,e3⟩
 |.exa n i,_,h=>let ⟨a,o,C,d,fs,e1,e2,e2',e3⟩:=h;⟨a,o,C,d,fs,e1,h2 a _ e2,h2 d _ e2',e3⟩
 |.box p s xs,_,h=>by
  obtain⟨a,vs,u,rfl,⟨n1,n2⟩,hb,hr⟩:=h
  exact⟨a,vs,u,rfl,h1 a u n2 n1,hb,Reps.mono h1 h2 hr⟩
 |.lst xs,_,h=>by
  obtain⟨a,vs,rfl,hn,hr⟩:=h
  refine⟨a,vs,rfl, ?_,Reps.mono h1 h2 hr⟩
  rcases hn with ⟨n1,n2⟩|n
  ·exact .inl (h1 a _ n2 n1)
  ·exact .inr n
 |.tup xs,_,h=>by
  obtain⟨a,vs,rfl,hn,hr⟩:=h
  exact⟨a,vs,rfl,h2 a _ hn,Reps.mono h1 h2 hr⟩
theorem Reps.mono (h1:∀a u,S a->Rd H a u->Rd H' a u/\S' a) (h2:∀a u,Im K H a u->Im K H' a u):∀{xs:List PV}{vs:List V},Reps K H S xs vs->Reps K H' S' xs vs
 |[],_,h=>h
 |x::xs,_,h=>by
  obtain⟨v,r,rfl,h3,h4⟩:=h
  exact⟨v,r,rfl,Rep.mono h1 h2 h3,Reps.mono h1 h2 h4⟩
end
mutual
theorem ZW.mono:∀{x:PV}{v:V}{F:List Addr},(∀a∈F,∀o,H a=some o->H' a=some o)->(∀a vs,Im K H a vs->Im K H' a vs)->ZW K H x v F->ZW K H' x v F
 |.non,_,_,_,_,h=>h
 |.bl _,_,_,_,_,h=>h
 |.int _,_,_,_,_,h=>h
 |.str _,_,_,_,_,h=>h
 |.exc n,_,_,_,h2,h=>let ⟨⟨a,o,C,e1,e2,e3⟩,e4⟩:=h;⟨⟨a,o,C,e1,h2 a _ e2,e3⟩,e4⟩
 |.exa n i,_,_,_,h2,h=>let ⟨⟨a,o,C,d,fs,e1,e2,e2',e3⟩,e4⟩:=h;⟨⟨a,o,C,d,fs,e1,h2 a _ e2,h2 d _ e2',e3⟩,e4⟩
 |.box p s xs,_,_,h1,h2,h=>by
  obtain⟨a,vs,u,G,rfl,ha,hb,ht,hn,rfl⟩:=h
  exact⟨a,vs,u,G,rfl,h1 a (by simp) _ ha,hb,Trees.mono (fun b hb o e=>h1 b (by simp[hb]) o e) h2 ht,hn,rfl⟩
 |.lst xs,_,_,h1,h2,h=>by
  obtain⟨a,vs,G,rfl,ha,ht,hn,rfl⟩:=h
  exact⟨a,vs,G,rfl,h1 a (by simp) _ ha,Trees.mono (fun b hb o e=>h1 b (by simp[hb]) o e) h2 ht,hn,rfl⟩
 |.tup xs,_,_,h1,h2,h=>by
  obtain⟨a,vs,rfl,ha,ht⟩:=h
  exact⟨a,vs,rfl,h2 a _ ha,Trees.mono h1 h2 ht⟩
theorem Trees.mono:∀{xs:List PV}{vs:List V}{F:List Addr},(∀a∈F,∀o,H a=some o->H' a=some o)->(∀a vs,Im K H a vs->Im K H' a vs)->Trees K H xs vs F->Trees K H' xs vs F
 |[],_,_,_,_,h=>h
 |x::xs,_,_,h1,h2,h=>by
  obtain⟨v,r,G1,G2,rfl,h3,h4,hd,rfl⟩:=h
  exact⟨v,r,G1,G2,rfl,ZW.mono (fun b hb o e=>h1 b (by simp[hb]) o e) h2 h3,Trees.mono (fun b hb o e=>h1 b (by simp[hb]) o e) h2 h4,hd,rfl⟩
end
mutual
theorem ZW.rep:∀{x:PV}{v:V}{F:List Addr},(∀a∈F,S a)->ZW K H x v F->Rep K H S x v
 |.non,_,_,_,h=>h.1
 |.bl _,_,_,_,h=>h.1
 |.int _,_,_,_,h=>h.1
 |.str _,_,_,_,h=>h.1
 |.exc _,_,_,_,h=>h.1
 |.exa _ _,_,_,_,h=>h.1
 |.box p s xs,_,_,h1,h=>by
  obtain⟨a,vs,u,G,rfl,ha,hb,ht,hn,rfl⟩:=h
  exact⟨a,vs,u,rfl,⟨.inl ha,h1 a (by simp)⟩,hb,Trees.reps (fun b hb=>h1 b (by simp[hb])) ht⟩
 |.lst xs,_,_,h1,h=>by
  obtain⟨a,vs,G,rfl,ha,ht,hn,rfl⟩:=h
  exact⟨a,vs,rfl,.inl ⟨.inl ha,h1 a (by simp)⟩,Trees.reps (fun b hb=>h1 b (by simp[hb])) ht⟩
 |.tup xs,_,_,h1,h=>by
  obtain⟨a,vs,rfl,ha,ht⟩:=h
  exact⟨a,vs,rfl,ha,Trees.reps h1 ht⟩
theorem Trees.reps:∀{xs:List PV}{vs:List V}{F:List Addr},(∀a∈F,S a)->Trees K H xs vs F->Reps K H S xs vs
 |[],_,_,_,h=>h.1
 |x::xs,_,_,h1,h=>by
  obtain⟨v,r,G1,G2,rfl,h3,h4,hd,rfl⟩:=h
  exact⟨v,r,rfl,ZW.rep (fun b hb=>h1 b (by simp[hb])) h3,Trees.reps (fun b hb=>h1 b (by simp[hb])) h4⟩
end
mutual
theorem ZW.alive:∀{x:PV}{v:V}{F:List Addr},ZW K H x v F->∀a∈F,∃vs:LvO,H a=some vs.1
 |.non,_,_,h=>by rw[h.2];simp
 |.bl _,_,_,h=>by rw[h.2];simp
 |.int _,_,_,h=>by rw[h.2];simp
 |.str _,_,_,h=>by rw[h.2];simp
 |.exc _,_,_,h=>by rw[h.2];simp
 |.exa _ _,_,_,h=>by rw[h.2];simp
 |.box p s xs,_,_,h=>by
  obtain⟨a,vs,u,G,rfl,ha,hb,ht,hn,rfl⟩:=h
  intro b hb'
  rcases ZsZ.mp hb' with rfl|hb'
  ·exact⟨⟨u,hb.2.lv⟩,ha⟩
  ·exact Trees.alive ht b hb'
 |.lst xs,_,_,h=>by
  obtain⟨a,vs,G,rfl,ha,ht,hn,rfl⟩:=h
  intro b hb
  rcases ZsZ.mp hb with rfl|hb
  ·exact⟨⟨.lst vs,trivial⟩,ha⟩
  ·exact Trees.alive ht b hb
 |.tup xs,_,_,h=>by
  obtain⟨a,vs,rfl,ha,ht⟩:=h
  exact Trees.alive ht
theorem Trees.alive:∀{xs:List PV}{vs:List V}{F:List Addr},Trees K H xs vs F->∀a∈F,∃vs:LvO,H a=some vs.1
 |[],_,_,h=>by rw[h.2];simp
 |x::xs,_,_,h=>by
  obtain⟨v,r,G1,G2,rfl,h3,h4,hd,rfl⟩:=h
  intro b hb
  rcases ZsS.mp hb with hb|hb
  ·exact ZW.alive h3 b hb
  ·exact Trees.alive h4 b hb
end
mutual
theorem Rep.tree:∀{x:PV}{v:V},x.flat=true->Rep K H S x v->ZW K H x v []
 |.non,_,_,h=>⟨h,rfl⟩
 |.bl _,_,_,h=>⟨h,rfl⟩
 |.int _,_,_,h=>⟨h,rfl⟩
 |.str _,_,_,h=>⟨h,rfl⟩
 |.exc _,_,_,h=>⟨h,rfl⟩
 |.exa _ _,_,_,h=>⟨h,rfl⟩
 |.box p s xs,_,f,_=>by simp[PV.flat] at f
 |.lst xs,_,f,_=>by simp[PV.flat] at f
 |.tup xs,_,f,h=>by
  obtain⟨a,vs,rfl,ha,ht⟩:=h
  exact⟨a,vs,rfl,ha,Reps.trees (by simpa[PV.flat] using f) ht⟩
theorem Reps.trees:∀{xs:List PV}{vs:List V},PV.flats xs=true->Reps K H S xs vs->Trees K H xs vs []
 |[],_,_,h=>⟨h,rfl⟩
 |x::xs,_,f,h=>by
  obtain⟨v,r,rfl,h3,h4⟩:=h
  simp only[PV.flats,Bool.and_eq_true] at f
  exact⟨v,r,[],[],rfl,Rep.tree f.1 h3,Reps.trees f.2 h4,by simp,rfl⟩
end
theorem Rep.any (h:Rep K H S x v):Rep K H (fun _=>True) x v:=Rep.mono (fun a vs _ r=>⟨r,trivial⟩) (fun a vs r=>r) h
theorem Reps.any (h:Reps K H S xs vs):Reps K H (fun _=>True) xs vs:=Reps.mono (fun a vs _ r=>⟨r,trivial⟩) (fun a vs r=>r) h
theorem Rep.flatS {x:PV}{v:V} (f:x.flat=true) (h:Rep K H S x v):Rep K H S' x v:=ZW.rep (F:=[]) (by simp) (Rep.tree f h)
theorem Reps.length:∀{xs:List PV}{vs:List V},Reps K H S xs vs->vs.length=xs.length
 |[],_,h=>by rw[h];rfl
 |x::xs,_,h=>by
  obtain⟨v,r,rfl,h3,h4⟩:=h
  simp[Reps.length h4]
theorem Trees.length {xs:List PV}{vs:List V}{F:List Addr} (h:Trees K H xs vs F):vs.length=xs.length:=(Trees.reps (S:=fun _=>True) (fun _ _=>trivial) h).length
theorem Reps.get:∀{xs:List PV}{vs:List V}{i:Nat}{x:PV},Reps K H S xs vs->xs[i]?=some x->∃v,vs[i]?=some v/\Rep K H S x v
 |[],_,_,_,_,e=>by simp at e
 |y::xs,_,0,x,h,e=>by
  obtain⟨v,r,rfl,h3,h4⟩:=h
  simp at e;subst e
  exact⟨v,rfl,h3⟩
 |y::xs,_,i+1,x,h,e=>by
  obtain⟨v,r,rfl,h3,h4⟩:=h
  obtain⟨w,e1,e2⟩:=Reps.get (i:=i) h4 (by simpa using e)
  exact⟨w,by simpa using e1,e2⟩
theorem Reps.append:∀{xs ys:List PV}{vs ws:List V},Reps K H S xs vs->Reps K H S ys ws->Reps K H S (xs++ys) (vs++ws)
 |[],_,_,_,h,h'=>by rw[h];exact h'
 |x::xs,_,_,_,h,h'=>by
  obtain⟨v,r,rfl,h3,h4⟩:=h
  exact⟨v,r++_,rfl,h3,Reps.append h4 h'⟩
theorem Reps.one {x:PV}{v:V} (h:Rep K H S x v):Reps K H S [x] [v]:=⟨v,[],rfl,h,rfl⟩
theorem Reps.take:∀{xs:List PV}{vs:List V} (n:Nat),Reps K H S xs vs->Reps K H S (xs.take n) (vs.take n)
 |_,_,0,_=>by simp[Reps]
 |[],_,n+1,h=>by rw[h];rfl
 |y::xs,_,n+1,h=>by
  obtain⟨w,r,rfl,h3,h4⟩:=h
  exact⟨w,r.take n,rfl,h3,Reps.take n h4⟩
theorem Reps.drop:∀{xs:List PV}{vs:List V} (n:Nat),Reps K H S xs vs->Reps K H S (xs.drop n) (vs.drop n)
 |_,_,0,h=>h
 |[],_,n+1,h=>by rw[h];rfl
 |y::xs,_,n+1,h=>by
  obtain⟨w,r,rfl,h3,h4⟩:=h
  exact Reps.drop n h4
theorem Trees.append:∀{xs ys:List PV}{vs ws:List V}{F G:List Addr},Trees K H xs vs F->Trees K H ys ws G->(∀a∈F,a ∉ G)->Trees K H (xs++ys) (vs++ws) (F++G)
 |[],_,_,_,_,_,h,h',_=>by rw[h.1,h.2];exact h'
 |x::xs,_,_,_,_,_,h,h',hd=>by
  obtain⟨v,r,G1,G2,rfl,h3,h4,hd',rfl⟩:=h
  refine⟨v,r++_,G1,G2++_,rfl,h3,Trees.append h4 h' (fun a ha=>hd a (by simp[ha])),fun a ha z=>?_,by simp⟩
  rcases ZsS.mp z with z|z
  ·exact hd' a ha z
  ·exact hd a (by simp[ha]) z
theorem Trees.one {x:PV}{v:V}{F:List Addr} (h:ZW K H x v F):Trees K H [x] [v] F:=⟨v,[],F,[],rfl,h,⟨rfl,rfl⟩,by simp,by simp⟩
theorem PV.flats_all:∀{xs:List PV},PV.flats xs=true ↔ ∀x∈xs,x.flat=true
 |[]=>by simp[PV.flats]
 |x::xs=>by simp[PV.flats,PV.flats_all (xs:=xs)]
theorem PV.flats_ints (ns:List Int):PV.flats (ns.map PV.int)=true:=PV.flats_all.mpr (by simp[PV.flat])
theorem Rd.same (e:Zw H H') (h:Rd H a u):Rd H' a u:=by
 rcases h with h|⟨o,h⟩
 ·exact .inl (e _ _ h)
 ·exact .inr ⟨o,e _ _ h⟩
theorem Zw.im (e:Zw H H') {k:HO} (h:Im K H a k):Im K H' a k:=⟨e _ _ h.1,h.2⟩
theorem Im.sqT {vs:List V} (h:Im K H a (.tup vs)):SqT K H a vs:=.inl (.inl h.1)
theorem Rep.same (e:Zw H H') (h:Rep K H S x v):Rep K H' S x v:=Rep.mono (fun a vs s r=>⟨r.same e,s⟩) (fun a vs r=>e.im r) h
theorem Reps.same (e:Zw H H') (h:Reps K H S xs vs):Reps K H' S xs vs:=Reps.mono (fun a vs s r=>⟨r.same e,s⟩) (fun a vs r=>e.im r) h
theorem ZW.same (e:Zw H H') (h:ZW K H x v F):ZW K H' x v F:=ZW.mono (fun a _ o q=>e a o q) (fun a vs r=>e.im r) h
theorem Trees.same (e:Zw H H') (h:Trees K H xs vs F):Trees K H' xs vs F:=Trees.mono (fun a _ o q=>e a o q) (fun a vs r=>e.im r) h
theorem Im.putL {p:Addr}{us:LvO}{o:HO}{k:HO} (hp:H p=some us.1) (h:Im K H a k):Im K (upd H p o) a k:=
 ⟨by rw[Zr (Zja h.1 hp (ZaO us.2 h.2))];exact h.1,h.2⟩
theorem Im.put {p:Addr}{us:List V}{o:HO}{k:HO} (hp:H p=some (.lst us)) (h:Im K H a k):Im K (upd H p o) a k:=Im.putL (us:=⟨.lst us,trivial⟩) hp h
theorem SqT.put {p:Addr}{us:List V}{o:HO} (hp:H p=some (.lst us)) (h:Im K H a (.tup vs)):Im K (upd H p o) a (.tup vs):=Im.put hp h
theorem Reps.putL {p:Addr}{us:LvO}{o:HO} (hp:H p=some us.1) (hS:¬S p) (h:Reps K H S xs vs):Reps K (upd H p o) S xs vs:=
 Reps.mono (fun a vs s r=>⟨by
  have hne:a≠p:=fun z=>hS (z▸s)
  rcases r with r|⟨o',r⟩
  ·exact .inl (by rw[Zr hne];exact r)
  ·exact .inr ⟨o',by rw[Zr hne];exact r⟩,s⟩) (fun a vs r=>Im.putL hp r) h
theorem ZW.putL {p:Addr}{us:LvO}{o:HO} (hp:H p=some us.1) (hS:p ∉ F) (h:ZW K H x v F):ZW K (upd H p o) x v F:=
 ZW.mono (fun a ha o q=>by
  have hne:a≠p:=fun z=>hS (z▸ha)
  rw[Zr hne];exact q) (fun a vs r=>Im.putL hp r) h
theorem Trees.putL {p:Addr}{us:LvO}{o:HO} (hp:H p=some us.1) (hS:p ∉ F) (h:Trees K H xs vs F):Trees K (upd H p o) xs vs F:=
 Trees.mono (fun a ha o q=>by
  have hne:a≠p:=fun z=>hS (z▸ha)
  rw[Zr hne];exact q) (fun a vs r=>Im.putL hp r) h
theorem Reps.put {p:Addr}{us:List V}{o:HO} (hp:H p=some (.lst us)) (hS:¬S p) (h:Reps K H S xs vs):Reps K (upd H p o) S xs vs:=Reps.putL (us:=⟨.lst us,trivial⟩) hp hS h
theorem ZW.put {p:Addr}{us:List V}{o:HO} (hp:H p=some (.lst us)) (hS:p ∉ F) (h:ZW K H x v F):ZW K (upd H p o) x v F:=ZW.putL (us:=⟨.lst us,trivial⟩) hp hS h
theorem Trees.put {p:Addr}{us:List V}{o:HO} (hp:H p=some (.lst us)) (hS:p ∉ F) (h:Trees K H xs vs F):Trees K (upd H p o) xs vs F:=Trees.putL (us:=⟨.lst us,trivial⟩) hp hS h
end
inductive Md|U|P|S|T|O
 deriving DecidableEq
def NO (B:Addr->Prop) (F:Nat->List Addr) (R:List Addr) (a:Addr):Prop:=B a/\a ∉ R/\∀i,a ∉ F i
def Ud (K:W.Frag) (H:Hp) (S:Addr->Prop) (m:Md) (x:PV) (o:Option (Option V)) (G:List Addr):Prop:=match m with
 |.U=>G=[]
 |.P=>G=[]/\∃v,o=some (some v)/\x.flat=true/\Rep K H (fun _=>True) x v
 |.S=>G=[]/\∃v,o=some (some v)/\Rep K H S x v
 |.T=>∃a vs xs,o=some (some (.ref a))/\x=.lst xs/\H a=some (.lst vs)/\Reps K H S xs vs/\G=[a]
 |.O=>∃v,o=some (some v)/\ZW K H x v G
structure Ag (K:PySem.W.Frag) (B:Addr->Prop) (H0 H:Hp) (σ:St) (Γ:List Md) (ρ:List PV) (F:Nat->List Addr) (R:List Addr):Prop where
 same:Zw H0 H
 own:∀a,H0 a=none->B a
 young:∀i,∀a∈F i,H0 a=none
 youngR:∀a∈R,H0 a=none
 live:∀i,∀a∈F i,∃vs:LvO,H a=some vs.1
 liveR:∀a∈R,∃vs:LvO,H a=some vs.1
 disj:∀i j,i≠j->∀a∈F i,a ∉ F j
 disjR:∀i,∀a∈F i,a ∉ R
 lenS:σ.length=Γ.length
 lenR:ρ.length=Γ.length
 slot:∀i,Ud K H (NO B F R) (Γ.getD i .U) (ρ.getD i .non) σ[i]? (F i)
theorem Ud.mono {K:W.Frag}{H H':Hp}{S S':Addr->Prop}{m:Md}{x:PV}{o:Option (Option V)}{G:List Addr} (h:Ud K H S m x o G) (h1:∀a u,S a->Rd H a u->Rd H' a u/\S' a)
  (h2:∀a u,Im K H a u->Im K H' a u) (h3:∀a∈G,∀u,H a=some u->H' a=some u):Ud K H' S' m x o G:=by
 cases m with
 |U=>exact h
 |P =>
  obtain⟨e,v,h4,h5,h6⟩:=h
  exact⟨e,v,h4,h5,ZW.rep (F:=[]) (by simp) (ZW.mono (by simp) h2 (Rep.tree h5 h6))⟩
 |S =>
  obtain⟨e,v,h4,h5⟩:=h
  exact⟨e,v,h4,Rep.mono h1 h2 h5⟩
 |T =>
  obtain⟨a,vs,xs,h4,h5,h6,h7,rfl⟩:=h
  exact⟨a,vs,xs,h4,h5,h3 a (by simp) _ h6,Reps.mono h1 h2 h7,rfl⟩
 |O =>
  obtain⟨v,h4,h5⟩:=h
  exact⟨v,h4,ZW.mono (fun a ha o q=>h3 a ha o q) h2 h5⟩
section
variable {K:W.Frag}{B:Addr->Prop}{H0 H H':Hp}{σ:St}{Γ:List Md}{ρ:List PV}{F:Nat->List Addr}{R R':List Addr}
theorem Ag.grow (A:Ag K B H0 H σ Γ ρ F R) (e:Zw H H'):Ag K B H0 H' σ Γ ρ F R:=
 ⟨A.same.trans e,A.own,A.young,A.youngR,fun i a ha=>let ⟨vs,q⟩:=A.live i a ha;⟨vs,e _ _ q⟩,fun a ha=>let ⟨vs,q⟩:=A.liveR a ha;⟨vs,e _ _ q⟩,A.disj,A.disjR,A.lenS,A.lenR,
  fun i=>(A.slot i).mono (fun a vs s r=>⟨r.same e,s⟩) (fun a vs r=>e.im r) fun a ha vs q=>e _ _ q⟩
theorem Ag.less (A:Ag K B H0 H σ Γ ρ F R) (h:∀a∈R',a∈R):Ag K B H0 H σ Γ ρ F R':=
 ⟨A.same,A.own,A.young,fun a ha=>A.youngR a (h a ha),A.live,fun a ha=>A.liveR a (h a ha),A.disj,fun i a ha z=>A.disjR i a ha (h a z),A.lenS,A.lenR,
  fun i=>(A.slot i).mono (fun a vs s r=>⟨r,s.1,fun z=>s.2.1 (h a z),s.2.2⟩) (fun a vs r=>r) fun a ha vs q=>q⟩
theorem Ag.more {G:List Addr} (A:Ag K B H0 H σ Γ ρ F R) (e:Zw H H') (hf:∀a∈G,H a=none) (hl:∀a∈G,∃vs:LvO,H' a=some vs.1):Ag K B H0 H' σ Γ ρ F (G++R):=by
 refine⟨A.same.trans e,A.own,A.young,fun a ha=>?_,fun i a ha=>let ⟨vs,q⟩:=A.live i a ha;⟨vs,e _ _ q⟩,fun a ha=>?_,A.disj,fun i a ha z=>?_,A.lenS,A.lenR,fun i=>?_⟩
 ·rcases ZsS.mp ha with z|z
  ·exact A.same.free (hf a z)
  ·exact A.youngR a z
 ·rcases ZsS.mp ha with z|z
  ·exact hl a z
  ·obtain⟨vs,q⟩:=A.liveR a z
   exact⟨vs,e _ _ q⟩
 ·rcases ZsS.mp z with z|z
  ·obtain⟨vs,q⟩:=A.live i a ha
   rw[hf a z] at q;cases q
  ·exact A.disjR i a ha z
 ·refine(A.slot i).mono (fun a vs s r=>⟨r.same e,s.1,fun z=>?_,s.2.2⟩) (fun a vs r=>e.im r) fun a ha vs q=>e _ _ q
  rcases ZsS.mp z with z|z
  ·have:=hf a z
   rcases r with r|⟨o,r⟩<;>(rw[this] at r;cases r)
  ·exact s.2.1 z
theorem Ag.fresh (A:Ag K B H0 H σ Γ ρ F R) {p:Addr} (hp:H p=none):p ∉ R/\(∀i,p ∉ F i)/\H0 p=none/\B p:=by
 refine⟨fun z=>?_,fun i z=>?_,A.same.free hp,A.own p (A.same.free hp)⟩
 ·obtain⟨vs,q⟩:=A.liveR p z
  rw[hp] at q;cases q
 ·obtain⟨vs,q⟩:=A.live i p z
  rw[hp] at q;cases q
theorem Ag.new {p:Addr}{xs:List V} (A:Ag K B H0 H σ Γ ρ F R) (hp:H p=none):Ag K B H0 (upd H p (.lst xs)) σ Γ ρ F (p::R):=
 A.more (G:=[p]) (Zw.new hp) (fun a ha=>by rw[Zti.mp ha];exact hp) fun a ha=>⟨⟨.lst xs,trivial⟩,by rw[Zti.mp ha,Z2]⟩
theorem Ag.newB {p:Addr}{u:HO} (hu:Lvo u) (A:Ag K B H0 H σ Γ ρ F R) (hp:H p=none):Ag K B H0 (upd H p u) σ Γ ρ F (p::R):=
 A.more (G:=[p]) (Zw.new hp) (fun a ha=>by rw[Zti.mp ha];exact hp) fun a ha=>⟨⟨u,hu⟩,by rw[Zti.mp ha,Z2]⟩
theorem Ag.getO {i:Nat} (A:Ag K B H0 H σ Γ ρ F R) (h:Γ[i]?=some .O):∃v,σ[i]?=some (some v)/\ZW K H (ρ.getD i .non) v (F i):=by
 have:=A.slot i
 rw[ZsO,h] at this
 exact this
theorem Ag.getT {i:Nat} (A:Ag K B H0 H σ Γ ρ F R) (h:Γ[i]?=some .T):∃a vs xs,σ[i]?=some (some (.ref a))/\ρ.getD i .non=.lst xs/\H a=some (.lst vs)/\Reps K H (NO B F R) xs vs/\F i=[a]:=by
 have:=A.slot i
 rw[ZsO (l:=Γ),h] at this
 exact this
theorem Ag.getS {i:Nat} (A:Ag K B H0 H σ Γ ρ F R) (h:Γ[i]?=some .S):∃v,σ[i]?=some (some v)/\Rep K H (NO B F R) (ρ.getD i .non) v:=by
 have:=A.slot i
 rw[ZsO (l:=Γ),h] at this
 exact this.2
theorem Ag.getP {i:Nat} (A:Ag K B H0 H σ Γ ρ F R) (h:Γ[i]?=some .P):∃v,σ[i]?=some (some v)/\(ρ.getD i .non).flat=true/\Rep K H (fun _=>True) (ρ.getD i .non) v:=by
 have:=A.slot i
 rw[ZsO (l:=Γ),h] at this
 exact this.2
theorem Ag.getA {i:Nat}{m:Md} (A:Ag K B H0 H σ Γ ρ F R) (h:Γ[i]?=some m) (hm:m≠.U):∃v,σ[i]?=some (some v)/\Rep K H (fun _=>True) (ρ.getD i .non) v:=by
 cases m with
 |U=>exact absurd rfl hm
 |P=>obtain⟨v,h1,h2,h3⟩:=A.getP h;exact⟨v,h1,h3⟩
 |S=>obtain⟨v,h1,h2⟩:=A.getS h;exact⟨v,h1,h2.any⟩
 |T =>
  obtain⟨a,vs,xs,h1,h2,h3,h4,h5⟩:=A.getT h
  exact⟨_,h1,by rw[h2];exact⟨a,vs,rfl,.inl ⟨.inl h3,trivial⟩,h4.any⟩⟩
 |O=>obtain⟨v,h1,h2⟩:=A.getO h;exact⟨v,h1,h2.rep (fun _ _=>trivial)⟩
theorem Ag.lt {i:Nat}{m:Md} (A:Ag K B H0 H σ Γ ρ F R) (h:Γ[i]?=some m):i<Γ.length:=(ZsR.mp h).1
noncomputable def JS (F:Nat->List Addr) (i:Nat) (G:List Addr):Nat->List Addr:=fun j=>if j=i then G else F j
theorem Zp {i:Nat}{G:List Addr}:JS F i G i=G:=if_pos rfl
theorem Zs {i j:Nat}{G:List Addr} (h:j≠i):JS F i G j=F j:=if_neg h
theorem Ag.put {i:Nat}{m:Md}{x:PV}{v:V}{G:List Addr} (A:Ag K B H0 H σ Γ ρ F (G++R)) (hi:i<Γ.length) (hG:∀a∈G,a ∉ R) (hs:Ud K H (NO B (JS F i G) R) m x (some (some v)) G) :
  Ag K B H0 H (σ.set i (some v)) (Γ.set i m) (ρ.set i x) (JS F i G) R:=by
 refine⟨A.same,A.own,fun j a ha=>?_,fun a ha=>A.youngR a (ZsT _ ha),fun j a ha=>?_,fun a ha=>A.liveR a (ZsT _ ha),fun j k hjk a ha z=>?_,fun j a ha z=>?_,by simp[A.lenS],by simp[A.lenR],fun j=>?_⟩
 ·by_cases h:j=i
  ·subst h;rw[Zp] at ha;exact A.youngR a (ZsW _ ha)
  ·rw[Zs h] at ha;exact A.young j a ha
 ·by_cases h:j=i
  ·subst h;rw[Zp] at ha;exact A.liveR a (ZsW _ ha)
  ·rw[Zs h] at ha;exact A.live j a ha
 ·by_cases h:j=i
  ·subst h
   rw[Zp] at ha
   rw[Zs (Ne.symm hjk)] at z
   exact A.disjR k a z (ZsW _ ha)
  ·rw[Zs h] at ha
   by_cases h':k=i
   ·subst h'
    rw[Zp] at z
    exact A.disjR j a ha (ZsW _ z)
   ·rw[Zs h'] at z
    exact A.disj j k hjk a ha z
 ·by_cases h:j=i
  ·subst h;rw[Zp] at ha;exact hG a ha z
  ·rw[Zs h] at ha;exact A.disjR j a ha (ZsT _ z)
 ·by_cases h:j=i
  ·subst h
   rw[Zp,ZsO,ZsO,Zto hi,Zto (by rw[A.lenR];exact hi),Zto (by rw[A.lenS];exact hi)]
   exact hs
  ·rw[Zs h,ZsO,ZsO,Ztj (Ne.symm h),Ztj (Ne.symm h),Ztj (Ne.symm h),<- ZsO,<- ZsO]
   refine(A.slot j).mono (fun a vs s r=>⟨r,s.1,fun z=>s.2.1 (ZsT _ z),fun k z=>?_⟩) (fun a vs r=>r) fun a ha vs q=>q
   by_cases h':k=i
   ·subst h';rw[Zp] at z;exact s.2.1 (ZsW _ z)
   ·rw[Zs h'] at z;exact s.2.2 k z
theorem Ag.turn {i:Nat}{m m':Md}{G:List Addr} (A:Ag K B H0 H σ Γ ρ F R) (h:Γ[i]?=some m) (hG:∀a∈G,a∈F i) (hs:Ud K H (NO B (JS F i []) (G++R)) m' (ρ.getD i .non) σ[i]? []) :
  Ag K B H0 H σ (Γ.set i m') ρ (JS F i []) (G++R):=by
 have hi:=A.lt h
 refine⟨A.same,A.own,fun j a ha=>?_,fun a ha=>?_,fun j a ha=>?_,fun a ha=>?_,fun j k hjk a ha z=>?_,fun j a ha z=>?_,by simp[A.lenS],by simp[A.lenR],fun j=>?_⟩
 ·by_cases h:j=i
  ·subst h;rw[Zp] at ha;simp at ha
  ·rw[Zs h] at ha;exact A.young j a ha
 ·rcases ZsS.mp ha with z|z
  ·exact A.young i a (hG a z)
  ·exact A.youngR a z
 ·by_cases h:j=i
  ·subst h;rw[Zp] at ha;simp at ha
  ·rw[Zs h] at ha;exact A.live j a ha
 ·rcases ZsS.mp ha with z|z
  ·exact A.live i a (hG a z)
  ·exact A.liveR a z
 ·by_cases h:j=i
  ·subst h;rw[Zp] at ha;simp at ha
  ·by_cases h':k=i
   ·subst h';rw[Zp] at z;simp at z
   ·rw[Zs h] at ha;rw[Zs h'] at z;exact A.disj j k hjk a ha z
 ·by_cases h:j=i
  ·subst h;rw[Zp] at ha;simp at ha
  ·rw[Zs h] at ha
   rcases ZsS.mp z with z|z
   ·exact A.disj j i h a ha (hG a z)
   ·exact A.disjR j a ha z
 ·by_cases h:j=i
  ·subst h
   rw[Zp,ZsO (l:=Γ.set _ _),Zto hi]
   exact hs
  ·rw[Zs h,ZsO (l:=Γ.set _ _),Ztj (Ne.symm h),<- ZsO]
   refine(A.slot j).mono (fun a vs s r=>⟨r,s.1,fun z=>?_,fun k z=>?_⟩) (fun a vs r=>r) fun a ha vs q=>q
   ·rcases ZsS.mp z with z|z
    ·exact s.2.2 i (hG a z)
    ·exact s.2.1 z
   ·by_cases h':k=i
    ·subst h';rw[Zp] at z;simp at z
    ·rw[Zs h'] at z;exact s.2.2 k z
theorem Ag.noF (A:Ag K B H0 H σ Γ ρ F R) {i:Nat}{a:Addr} (ha:a∈F i):NO B (JS F i []) R a:=⟨A.own a (A.young i a ha),A.disjR i a ha,fun j z=>by
 by_cases h:j=i
 ·subst h;rw[Zp] at z;simp at z
 ·rw[Zs h] at z;exact A.disj j i h a z ha⟩
theorem Ag.freeze {i:Nat}{m:Md} (A:Ag K B H0 H σ Γ ρ F R) (h:Γ[i]?=some m) (hm:m≠.U):Ag K B H0 H σ (Γ.set i .S) ρ (JS F i []) R:=by
 refine A.turn (G:=[]) h (by simp) ?_
 show Ud K H (NO B (JS F i []) R) .S (ρ.getD i .non) σ[i]? []
 have up:∀{a vs},NO B F R a->Rd H a vs->Rd H a vs/\NO B (JS F i []) R a:=fun {a vs} s r=>⟨r,s.1,s.2.1,fun j z=>by
  by_cases h:j=i
  ·subst h;rw[Zp] at z;simp at z
  ·rw[Zs h] at z;exact s.2.2 j z⟩
 cases m with
 |U=>exact absurd rfl hm
 |P=>obtain⟨v,h1,h2,h3⟩:=A.getP h;exact⟨rfl,v,h1,h3.flatS h2⟩
 |S=>obtain⟨v,h1,h2⟩:=A.getS h;exact⟨rfl,v,h1,Rep.mono (fun a vs s r=>up s r) (fun a vs r=>r) h2⟩
 |T =>
  obtain⟨a,vs,xs,h1,h2,h3,h4,h5⟩:=A.getT h
  refine⟨rfl,_,h1, ?_⟩
  rw[h2]
  exact⟨a,vs,rfl,.inl ⟨.inl h3,A.noF (by rw[h5];simp)⟩,Reps.mono (fun a vs s r=>up s r) (fun a vs r=>r) h4⟩
 |O =>
  obtain⟨v,h1,h2⟩:=A.getO h
  exact⟨rfl,v,h1,h2.rep fun a ha=>A.noF ha⟩
theorem Ag.move {i:Nat} (A:Ag K B H0 H σ Γ ρ F R) (h:Γ[i]?=some .O):Ag K B H0 H σ (Γ.set i .U) ρ (JS F i []) (F i++R):=A.turn (G:=F i) h (fun a ha=>ha) rfl
end
noncomputable abbrev PX:=Str×PV
inductive Rr (α:Type) where
 |ok (a:α)|exc (e:PX)|bad
noncomputable def Rr.bind {α β:Type}:Rr α->(α->Rr β)->Rr β
 |.ok a,f=>f a
 |.exc e,_=>.exc e
 |.bad,_=>.bad
def Dn {α:Type} (r:Rr α) (ok:α->Prop) (ex:PX->Prop):Prop:=match r with
 |.ok a=>ok a
 |.exc e=>ex e
 |.bad=>False
theorem Dn.bind {α β:Type}{r:Rr α}{f:α->Rr β}{ok:β->Prop}{ex:PX->Prop} (h:Dn (r.bind f) ok ex):Dn r (fun a=>Dn (f a) ok ex) ex:=by
 cases r with
 |ok a=>exact h
 |exc e=>exact h
 |bad=>exact h
theorem Dn.imp {α:Type}{r:Rr α}{ok ok':α->Prop}{ex ex':PX->Prop} (h:Dn r ok ex) (h1:∀a,r=.ok a->ok a->ok' a) (h2:∀e,ex e->ex' e):Dn r ok' ex':=by
 cases r with
 |ok a=>exact h1 a rfl h
 |exc e=>exact h2 e h
 |bad=>exact h
@[simp] theorem Rr.bind_ok {α β:Type}{a:α}{f:α->Rr β}:(Rr.ok a).bind f=f a:=rfl
@[simp] theorem Rr.bind_exc {α β:Type}{e:PX}{f:α->Rr β}:(Rr.exc e:Rr α).bind f=.exc e:=rfl
@[simp] theorem Rr.bind_bad {α β:Type}{f:α->Rr β}:(Rr.bad:Rr α).bind f=.bad:=rfl
inductive Kd|P|F|T|Z|A|N
def Res (K:W.Frag) (B:Addr->Prop) (H0 H:Hp) (σ:St) (Γ':List Md) (ρ:List PV) (F:Nat->List Addr) (R:List Addr) (k:Kd) (x:PV) (v:V) (H':Hp):Prop:=
 ∃F',(∀i,∀a∈F' i,a∈F i)/\match k with
 |.P=>x.flat=true/\Rep K H' (fun _=>True) x v/\Ag K B H0 H' σ Γ' ρ F' R
 |.F=>∃G,ZW K H' x v G/\(∀a∈G,a ∉ R/\(H a=none\/∃i,a∈F i))/\Ag K B H0 H' σ Γ' ρ F' (G++R)
 |.T=>∃a vs xs,x=.lst xs/\v=.ref a/\H' a=some (.lst vs)/\Reps K H' (NO B F' (a::R)) xs vs/\a ∉ R/\(H a=none\/∃i,a∈F i)/\Ag K B H0 H' σ Γ' ρ F' (a::R)
 |.Z=>Rep K H' (NO B F' R) x v/\Ag K B H0 H' σ Γ' ρ F' R
 |.A=>Rep K H' (fun _=>True) x v/\Ag K B H0 H' σ Γ' ρ F' R
 |.N=>False
def DE (K:W.Frag) (EX:PX->Hp->Prop) (Γ Γ':List Md) (k:Kd) (te:TE) (f:List PV->Rr PV):Prop:=
 ∀(B:Addr->Prop) (H0 H:Hp) (σ:St) (ρ:List PV) (F:Nat->List Addr) (R:List Addr) (Q:VK),Ag K B H0 H σ Γ ρ F R ->
  Dn (f ρ) (fun x=>∀v H',Zw H H'->Res K B H0 H σ Γ' ρ F R k x v H'->Q v H') (fun e=>∀H',Zw H0 H'->EX e H')->te σ H Q
def DT (K:W.Frag) (EX:PX->Hp->Prop) (Γ Γ':List Md) (tt:TT) (f:List PV->Rr Bool):Prop:=
 ∀(B:Addr->Prop) (H0 H:Hp) (σ:St) (ρ:List PV) (F:Nat->List Addr) (R:List Addr) (Q:Bool->Hp->Prop),Ag K B H0 H σ Γ ρ F R ->
  Dn (f ρ) (fun b=>∀H' F',Zw H H'->(∀i,∀a∈F' i,a∈F i)->Ag K B H0 H' σ Γ' ρ F' R->Q b H') (fun e=>∀H',Zw H0 H'->EX e H')->tt σ H Q
section
variable {K:W.Frag}{B:Addr->Prop}{EX:PX->Hp->Prop}{H0 H H':Hp}{σ:St}{Γ Γ' Γ1 Γ2:List Md}{ρ:List PV}{F F':Nat->List Addr}{R:List Addr}{k:Kd}{x:PV}{v:V}{te ta tb:TE}{f fa fb:List PV->Rr PV}
theorem Res.ag (h:Res K B H0 H σ Γ' ρ F R k x v H'):∃F',(∀i,∀a∈F' i,a∈F i)/\Rep K H' (fun _=>True) x v/\Ag K B H0 H' σ Γ' ρ F' R:=by
 obtain⟨F',hF,h⟩:=h
 refine⟨F',hF, ?_⟩
 cases k with
 |P=>exact⟨h.2.1,h.2.2⟩
 |F=>obtain⟨G,h1,h2,h3⟩:=h;exact⟨h1.rep fun _ _=>trivial,h3.less fun a ha=>ZsT _ ha⟩
 |T=>obtain⟨a,vs,xs,rfl,rfl,h1,h2,h3,h4,h5⟩:=h;exact⟨⟨a,vs,rfl,.inl ⟨.inl h1,trivial⟩,h2.any⟩,h5.less fun a ha=>Ztx _ ha⟩
 |Z=>exact⟨h.1.any,h.2⟩
 |A=>exact h
 |N=>exact h.elim
theorem Res.toA (h:Res K B H0 H σ Γ' ρ F R k x v H'):Res K B H0 H σ Γ' ρ F R .A x v H':=let ⟨F',a,b,c⟩:=h.ag;⟨F',a,b,c⟩
theorem Res.PF (h:Res K B H0 H σ Γ' ρ F R .P x v H'):Res K B H0 H σ Γ' ρ F R .F x v H':=by
 obtain⟨F',hF,h1,h2,h3⟩:=h
 exact⟨F',hF,[],h2.tree h1,by simp,h3⟩
theorem Res.PZ (h:Res K B H0 H σ Γ' ρ F R .P x v H'):Res K B H0 H σ Γ' ρ F R .Z x v H':=by
 obtain⟨F',hF,h1,h2,h3⟩:=h
 exact⟨F',hF,h2.flatS h1,h3⟩
theorem Res.FZ (h:Res K B H0 H σ Γ' ρ F R .F x v H'):Res K B H0 H σ Γ' ρ F R .Z x v H':=by
 obtain⟨F',hF,G,h1,h2,h3⟩:=h
 exact⟨F',hF,h1.rep fun a ha=>⟨h3.own a (h3.youngR a (ZsW _ ha)),(h2 a ha).1,fun i z=>h3.disjR i a z (ZsW _ ha)⟩,h3.less fun a ha=>ZsT _ ha⟩
theorem DE.imp {k':Kd} (h:DE K EX Γ Γ' k te f) (hr:∀{B:Addr->Prop}{H0 H H':Hp}{σ:St}{ρ:List PV}{F:Nat->List Addr}{R:List Addr}{x:PV}{v:V},Res K B H0 H σ Γ' ρ F R k x v H'->Res K B H0 H σ Γ' ρ F R k' x v H'):DE K EX Γ Γ' k' te f:=
 fun B H0 H σ ρ F R Q A d=>h B H0 H σ ρ F R Q A (d.imp (fun x _ q v H' s r=>q v H' s (hr r)) fun e q=>q)
theorem DE.toA (h:DE K EX Γ Γ' k te f):DE K EX Γ Γ' .A te f:=h.imp Res.toA
theorem DE.PF (h:DE K EX Γ Γ' .P te f):DE K EX Γ Γ' .F te f:=h.imp Res.PF
theorem DE.PZ (h:DE K EX Γ Γ' .P te f):DE K EX Γ Γ' .Z te f:=h.imp Res.PZ
theorem DE.FZ (h:DE K EX Γ Γ' .F te f):DE K EX Γ Γ' .Z te f:=h.imp Res.FZ
noncomputable def grd (x:PV):Rr PV:=if x.flat=true then .ok x else .bad
theorem DE.grd (h:DE K EX Γ Γ' .A te f):DE K EX Γ Γ' .P te (fun ρ=>(f ρ).bind grd):=fun B H0 H σ ρ F R Q A d=>by
 refine h B H0 H σ ρ F R Q A (d.bind.imp (fun x _ q v H' s r=>?_) fun e q=>q)
 unfold L2.grd at q
 by_cases hx:x.flat=true
 ·rw[if_pos hx] at q
  obtain⟨F',h1,h2,h3⟩:=r
  exact q v H' s ⟨F',h1,hx,h2,h3⟩
 ·rw[if_neg hx] at q;exact q.elim
theorem ZlW {v:V} (hf:x.flat=true) (hr:∀H,Rep K H (fun _=>True) x v):DE K EX Γ Γ .P (tC v) (fun _=>.ok x):=fun B H0 H σ ρ F R Q A d =>
 d v H (Zw.refl H) ⟨F,fun _ _ h=>h,hf,hr H,A⟩
theorem Zk {i:Int}:DE K EX Γ Γ .P (tC (.int i)) (fun _=>.ok (.int i)):=ZlW rfl fun _=>rfl
theorem V7 {b:Bool}:DE K EX Γ Γ .P (tC (.bl b)) (fun _=>.ok (.bl b)):=ZlW rfl fun _=>rfl
theorem ZdM:DE K EX Γ Γ .P (tC .non) (fun _=>.ok .non):=ZlW rfl fun _=>rfl
theorem Zay {x:Str}:DE K EX Γ Γ .P (tC (.str x)) (fun _=>.ok (.str x)):=ZlW rfl fun _=>rfl
noncomputable def gv (i:Nat) (ρ:List PV):PV:=ρ.getD i .non
theorem Zc {i:Nat}{m:Md} (h:Γ[i]?=some m) (hm:m≠.U):DE K EX Γ Γ .A (QW i) (fun ρ=>.ok (gv i ρ)):=fun B H0 H σ ρ F R Q A d=>by
 obtain⟨v,h1,h2⟩:=A.getA h hm
 exact⟨v,h1,d v H (Zw.refl H) ⟨F,fun _ _ h=>h,h2,A⟩⟩
theorem Zh {i:Nat} (h:Γ[i]?=some .P):DE K EX Γ Γ .P (QW i) (fun ρ=>.ok (gv i ρ)):=fun B H0 H σ ρ F R Q A d=>by
 obtain⟨v,h1,h2,h3⟩:=A.getP h
 exact⟨v,h1,d v H (Zw.refl H) ⟨F,fun _ _ h=>h,h2,h3,A⟩⟩
theorem Vb {i:Nat} (h:Γ[i]?=some .S):DE K EX Γ Γ .Z (QW i) (fun ρ=>.ok (gv i ρ)):=fun B H0 H σ ρ F R Q A d=>by
 obtain⟨v,h1,h2⟩:=A.getS h
 exact⟨v,h1,d v H (Zw.refl H) ⟨F,fun _ _ h=>h,h2,A⟩⟩
theorem Vu {i:Nat}{F:Nat->List Addr}:∀j,∀a∈JS F i [] j,a∈F j:=fun j a ha=>by
 by_cases h:j=i
 ·subst h;rw[Zp] at ha;simp at ha
 ·rw[Zs h] at ha;exact ha
theorem Vx {i:Nat} (h:Γ[i]?=some .O):DE K EX Γ (Γ.set i .U) .F (QW i) (fun ρ=>.ok (gv i ρ)):=fun B H0 H σ ρ F R Q A d=>by
 obtain⟨v,h1,h2⟩:=A.getO h
 exact⟨v,h1,d v H (Zw.refl H) ⟨JS F i [],Vu,F i,h2,fun a ha=>⟨A.disjR i a ha,.inr ⟨i,ha⟩⟩,A.move h⟩⟩
theorem Zj7 {i:Nat}{m:Md} (h:Γ[i]?=some m) (hm:m≠.U):DE K EX Γ (Γ.set i .S) .Z (QW i) (fun ρ=>.ok (gv i ρ)):=fun B H0 H σ ρ F R Q A d=>by
 have A':=A.freeze h hm
 obtain⟨v,h1,h2⟩:=A'.getS (Zto (A.lt h))
 exact⟨v,h1,d v H (Zw.refl H) ⟨JS F i [],Vu,h2,A'⟩⟩
def OpP (K:W.Frag) (r:R2) (o:PV->PV->Rr PV):Prop:=∀{H:Hp}{x y:PV}{v w:V}{Q:VK},Rep K H (fun _=>True) x v->Rep K H (fun _=>True) y w ->
 (∃z,o x y=.ok z/\(z.flat=true->∀u,Rep K H (fun _=>True) z u->Q u H))->r v w H Q
theorem Dn.bind2 {α β γ:Type}{r:Rr α}{q:Rr β}{f:α->β->Rr γ}{ok:γ->Prop}{ex:PX->Prop} (h:Dn (r.bind fun a=>q.bind fun b=>f a b) ok ex):Dn r (fun a=>Dn q (fun b=>Dn (f a b) ok ex) ex) ex:=
 h.bind.imp (fun a _ h=>h.bind) fun e h=>h
theorem two {Q:V->V->Hp->Prop}{ok:PV->PV->Prop} (ha:DE K EX Γ Γ1 .A ta fa) (hb:DE K EX Γ1 Γ2 .A tb fb) (A:Ag K B H0 H σ Γ ρ F R)
  (d:Dn (fa ρ) (fun x=>Dn (fb ρ) (fun y=>ok x y) (fun e=>∀H',Zw H0 H'->EX e H')) (fun e=>∀H',Zw H0 H'->EX e H'))
  (hq:∀x y v w H' F',ok x y->Zw H H'->(∀i,∀a∈F' i,a∈F i)->Rep K H' (fun _=>True) x v->Rep K H' (fun _=>True) y w->Ag K B H0 H' σ Γ2 ρ F' R->Q v w H') :
  ta σ H fun v H1=>tb σ H1 fun w H2=>Q v w H2:=by
 refine ha B H0 H σ ρ F R _ A (d.imp (fun x _ d v H1 s1 r1=>?_) fun e q=>q)
 obtain⟨F1,f1,p1,A1⟩:=r1
 refine hb B H0 H1 σ ρ F1 R _ A1 (d.imp (fun y _ q w H2 s2 r2=>?_) fun e q=>q)
 obtain⟨F2,f2,p2,A2⟩:=r2
 exact hq x y v w H2 F2 q (s1.trans s2) (fun i a h=>f1 i a (f2 i a h)) (p1.same s2) p2 A2
theorem Zge {r:R2}{o:PV->PV->Rr PV} (hr:OpP K r o) (ho:∀x y z,o x y=.ok z->z.flat=true) (hx:∀x y e,o x y≠.exc e) (ha:DE K EX Γ Γ1 .A ta fa) (hb:DE K EX Γ1 Γ2 .A tb fb) :
  DE K EX Γ Γ2 .P (tOp r ta tb) (fun ρ=>(fa ρ).bind fun x=>(fb ρ).bind fun y=>o x y):=fun B H0 H σ ρ F R Q A d=>by
 refine two ha hb A d.bind2 fun x y v w H' F' d s hF p1 p2 A'=>?_
 cases e:o x y with
 |ok z=>rw[e] at d;exact hr p1 p2 ⟨z,e,fun hf u hu=>d u H' s ⟨F',hF,hf,hu,A'⟩⟩
 |exc q=>exact absurd e (hx x y q)
 |bad=>rw[e] at d;exact d.elim
def UnP (K:W.Frag) (r:V->Hp->VK->Prop) (o:PV->Rr PV):Prop:=∀{H:Hp}{x:PV}{v:V}{Q:VK},Rep K H (fun _=>True) x v->(∃z,o x=.ok z/\(z.flat=true->∀u,Rep K H (fun _=>True) z u->Q u H))->r v H Q
theorem Zm8 {r:V->Hp->VK->Prop}{o:PV->Rr PV} (hr:UnP K r o) (hx:∀x e,o x≠.exc e) (ha:DE K EX Γ Γ1 .A ta fa):DE K EX Γ Γ1 .P (tUn r ta) (fun ρ=>(fa ρ).bind o):=fun B H0 H σ ρ F R Q A d=>by
 refine ha B H0 H σ ρ F R _ A (d.bind.imp (fun x _ d v H1 s1 r1=>?_) fun e q=>q)
 obtain⟨F1,f1,p1,A1⟩:=r1
 cases e:o x with
 |ok z=>rw[e] at d;exact hr p1 ⟨z,e,fun hf u hu=>d u H1 s1 ⟨F1,f1,hf,hu,A1⟩⟩
 |exc q=>exact absurd e (hx x q)
 |bad=>rw[e] at d;exact d.elim
noncomputable def oI (C:Int->Int->Bool) (g:Int->Int->PV) (x y:PV):Rr PV:=match x,y with
 |.int i,.int j=>if C i j=true then .ok (g i j) else .bad
 |_,_=>.bad
theorem Zd4 {C:Int->Int->Bool}{g:Int->Int->PV}{i j:Int} (h:C i j=true):oI C g (.int i) (.int j)=.ok (g i j):=if_pos h
theorem Znm {C:Int->Int->Bool}{D:Int->Int->Prop}{g:Int->Int->PV}{g':Int->Int->V} (hC:∀i j,C i j=true->D i j) (hg:∀H i j,Rep K H (fun _=>True) (g i j) (g' i j)) (hf:∀i j,(g i j).flat=true):OpP K (rI D g') (oI C g):=by
 intro H x y v w Q rx ry ⟨z,e,q⟩
 cases x<;>cases y<;>first|(simp only[oI] at e;cases e;done)|skip
 rename_i i j
 simp only[oI] at e
 by_cases h:C i j=true
 ·rw[if_pos h] at e;cases e
  cases rx;cases ry
  exact⟨i,j,rfl,rfl,hC i j h,q (hf i j) _ (hg H i j)⟩
 ·rw[if_neg h] at e;cases e
theorem Zm1 {g:Int->Int->PV}{g':Int->Int->V} (hg:∀H i j,Rep K H (fun _=>True) (g i j) (g' i j)) (hf:∀i j,(g i j).flat=true):OpP K (rI0 g') (oI (fun _ _=>true) g):=by
 intro H x y v w Q rx ry ⟨z,e,q⟩
 cases x<;>cases y<;>first|(simp only[oI] at e;cases e;done)|skip
 rename_i i j
 simp only[oI,if_true] at e
 cases e;cases rx;cases ry
 exact⟨i,j,rfl,rfl,q (hf i j) _ (hg H i j)⟩
theorem Zd3 {C:Int->Int->Bool}{g:Int->Int->PV} (x y:PV) (e:PX):oI C g x y≠.exc e:=by
 cases x<;>cases y<;>first|(intro h;simp only[oI] at h;cases h;done)|skip
 intro h
 simp only[oI] at h
 split at h<;>cases h
theorem Zf1 {C:Int->Int->Bool}{g:Int->Int->PV} (hf:∀i j,(g i j).flat=true) (x y z:PV) (h:oI C g x y=.ok z):z.flat=true:=by
 cases x<;>cases y<;>first|(simp only[oI] at h;cases h;done)|skip
 simp only[oI] at h
 split at h
 ·cases h;exact hf _ _
 ·cases h
end
mutual
noncomputable def PV.noX:PV->Bool
 |.exc _=>false
 |.exa _ _=>false
 |.box _ _ _=>false
 |.lst xs=>PV.noXs xs
 |.tup xs=>PV.noXs xs
 |.non=>true
 |.bl _=>true
 |.int _=>true
 |.str _=>true
noncomputable def PV.noXs:List PV->Bool
 |[]=>true
 |x::xs=>x.noX&&PV.noXs xs
end
theorem PV.noXs_ints:∀(ns:List Int),PV.noXs (ns.map PV.int)=true
 |[]=>rfl
 |n::ns=>by simp[PV.noXs,PV.noX,PV.noXs_ints ns]
mutual
noncomputable def PV.dat:PV->PyData
 |.non=>.none
 |.bl b=>.bool b
 |.int i=>.int i
 |.str x=>.str x
 |.exc _=>.none
 |.exa _ _=>.none
 |.box _ _ _=>.none
 |.lst xs=>.list (PV.dats xs)
 |.tup xs=>.tuple (PV.dats xs)
noncomputable def PV.dats:List PV->List PyData
 |[]=>[]
 |x::xs=>x.dat::PV.dats xs
end
section
variable {X:Cx}{pins:List (Addr×Obj)}{σ:St}{H:Hp}{s:Shared}{S:Addr->Prop}
theorem V5 {K:W.Frag}{a:Addr}{vs:List V} (h:(Rd H a (.lst vs)/\S a)\/KL K a vs):SqL K H a vs:=by
 rcases h with h|h
 ·exact .inl h.1
 ·exact .inr h
mutual
theorem Rep.reads (I:Inv X pins σ H s):∀{x:PV}{v:V}{u:Value},x.noX=true->Rep X.K H S x v->Jo v u->∃as,Reads s.heap u x.dat as
 |.non,_,_,_,h,r=>by cases h;cases r;exact⟨_,.none⟩
 |.bl _,_,_,_,h,r=>by cases h;cases r;exact⟨_,.bool _⟩
 |.int _,_,_,_,h,r=>by cases h;obtain⟨t,rfl⟩:=r;exact⟨_,.int _ _⟩
 |.str _,_,_,_,h,r=>by cases h;obtain⟨t,rfl⟩:=r;exact⟨_,.str _ _⟩
 |.exc _,_,_,z,_,_=>by simp[PV.noX] at z
 |.exa _ _,_,_,z,_,_=>by simp[PV.noX] at z
 |.box _ _ _,_,_,z,_,_=>by simp[PV.noX] at z
 |.lst xs,_,_,z,h,r=>by
  obtain⟨a,vs,rfl,hn,hr⟩:=h
  cases r
  obtain⟨its,rv,pl,_⟩:=I.list (V5 hn)
  obtain⟨as,ra⟩:=Reps.reads I (by simpa[PV.noX] using z) hr rv
  obtain⟨o,ho,hc,n,hd⟩:=pl.isList
  exact⟨_,.list ho hc hd (by simpa using ra)⟩
 |.tup xs,_,_,z,h,r=>by
  obtain⟨a,vs,rfl,hn,hr⟩:=h
  cases r
  obtain⟨its,rv,⟨o,ho,hc,n,hd⟩,_⟩:=I.tuple hn.sqT
  obtain⟨as,ra⟩:=Reps.reads I (by simpa[PV.noX] using z) hr rv
  exact⟨_,.tuple ho hc hd (by simpa using ra)⟩
theorem Reps.reads (I:Inv X pins σ H s):∀{xs:List PV}{vs:List V}{us:List Value},PV.noXs xs=true->Reps X.K H S xs vs->ZX vs us->∃as,ReadsAll s.heap us (PV.dats xs) as
 |[],_,_,_,h,r=>by rw[h] at r;cases r;exact⟨_,.nil⟩
 |x::xs,_,_,z,h,r=>by
  simp only[PV.noXs,Bool.and_eq_true] at z
  obtain⟨v,vs,rfl,h1,h2⟩:=h
  cases r with
  |cons r1 r2 =>
   obtain⟨as,a1⟩:=Rep.reads I z.1 h1 r1
   obtain⟨bs,b1⟩:=Reps.reads I z.2 h2 r2
   exact⟨_,.cons a1 b1⟩
end
noncomputable def okD (x:PV):Bool:=x.noX&&x.dat.canLay0&&decide (x.dat.depth<=64)
noncomputable def Zmo (K:W.Frag) (g:Bool->Bool):R2:=fun x y H Q=>∃p q,Rep K H (fun _=>True) p x/\Rep K H (fun _=>True) q y/\okD p=true/\okD q=true/\Q (.bl (g (PyData.eqv p.dat q.dat))) H
theorem Zao {K:W.Frag} (hu:X.A.units+64<cLine) (e:X.K=K:=by rfl):OpR X (compareOp .Eq) (Zmo K id):=by
 subst e
 intro pins s σ H x y v u Q I rx ry h
 obtain⟨p,q,h1,h2,h3,h4,hq⟩:=h
 simp only[okD,Bool.and_eq_true,decide_eq_true_eq] at h3 h4
 obtain⟨as,ra⟩:=h1.reads I h3.1.1 rx
 obtain⟨bs,rb⟩:=h2.reads I h4.1.1 ry
 exact SeqAt.rcAt_reads ra rb h3.1.2 h4.1.2 (by have:=ZuE p.dat.depth q.dat.depth;omega) _ _ _ _ ⟨.bl (PyData.eqv p.dat q.dat),H,I,rfl,hq⟩
theorem Vf {K:W.Frag} (hu:X.A.units+64<cLine) (e:X.K=K:=by rfl):OpR X (compareOp .NotEq) (Zmo K (!·)):=by
 subst e
 intro pins s σ H x y v u Q I rx ry h
 obtain⟨p,q,h1,h2,h3,h4,hq⟩:=h
 simp only[okD,Bool.and_eq_true,decide_eq_true_eq] at h3 h4
 obtain⟨as,ra⟩:=h1.reads I h3.1.1 rx
 obtain⟨bs,rb⟩:=h2.reads I h4.1.1 ry
 exact SeqAt.rcNeAt_reads ra rb h3.1.2 h4.1.2 (by have:=ZuE p.dat.depth q.dat.depth;omega) _ _ _ _ ⟨.bl (!PyData.eqv p.dat q.dat),H,I,rfl,hq⟩
end
noncomputable def Zam (g:Bool->Bool) (x y:PV):Rr PV:=if (okD x&&okD y)=true then .ok (.bl (g (PyData.eqv x.dat y.dat))) else .bad
def ZcT (i j:Int):Prop:=i.natAbs<2^60000/\j.natAbs<2^60000
def ZcU (i j:Int):Prop:=0<j/\j.natAbs<2^9000
noncomputable instance (i j:Int):Decidable (ZcT i j):=by unfold ZcT;infer_instance
noncomputable instance (i j:Int):Decidable (ZcU i j):=by unfold ZcU;infer_instance
noncomputable instance (i j:Int):Decidable (ZjZ i j):=by unfold ZjZ;infer_instance
theorem Zg0 {i:Int}{n:Nat} (h:i.natAbs<2^n):Builtin.Int.intBits i<=n:=by
 unfold Builtin.Int.intBits
 split
 ·exact Ztp _
 ·rename_i h0
  have:i.natAbs≠0:=by simpa using h0
  exact Nat.succ_le_of_lt ((Nat.log2_lt this).mpr h)
section
variable {X:Cx}
theorem UP:OpR X (binaryOp .Mult) (rI ZcT fun i j=>.int (i*j)):=opI fun _ _ _ _ _ _ _ hc q=>mul_int q (PyProof.Rows.mulOk_of_bits (Zg0 hc.1) (Zg0 hc.2) (by decide))
theorem JW:OpR X (binaryOp .FloorDiv) (rI ZcU fun i j=>.int (i/j)):=opI fun i j _ _ _ _ _ hc q=>by
 refine floordiv_int (by have:=hc.1;omega) ?_ (.inl (PyProof.noPylong_of_log2 ?_))
 ·rw[Int.fdiv_eq_ediv_of_nonneg _ (by have:=hc.1;omega)];exact q
 ·have h0:j.natAbs≠0:=by have:=hc.1;omega
  exact(Nat.log2_lt h0).mpr hc.2
variable {K:W.Frag}{B:Addr->Prop}{EX:PX->Hp->Prop}{H0 H:Hp}{σ:St}{Γ Γ' Γ1 Γ2:List Md}{ρ:List PV}{F:Nat->List Addr}{R:List Addr}{k:Kd}{x:PV}{v:V}{ta tb:TE}{fa fb fc:List PV->Rr PV}
noncomputable abbrev Zmw:PV->PV->Rr PV:=oI (fun _ _=>true) fun i j=>.int (i+j)
noncomputable abbrev ZmP:PV->PV->Rr PV:=oI (fun _ _=>true) fun i j=>.int (i-j)
noncomputable abbrev Zms:PV->PV->Rr PV:=oI (fun i j=>decide (ZcT i j)) fun i j=>.int (i*j)
noncomputable abbrev Zmv:PV->PV->Rr PV:=oI (fun i j=>decide (ZcU i j)) fun i j=>.int (i/j)
noncomputable abbrev ZmQ:PV->PV->Rr PV:=oI (fun _ j=>decide (0<j)) fun i j=>.int (i%j)
noncomputable abbrev ZkA:PV->PV->Rr PV:=oI (fun i j=>decide (ZjZ i j)) fun i j=>.int (i^j.toNat)
noncomputable abbrev pLt:PV->PV->Rr PV:=oI (fun _ _=>true) fun i j=>.bl (decide (i<j))
noncomputable abbrev pLe:PV->PV->Rr PV:=oI (fun _ _=>true) fun i j=>.bl (decide (i<=j))
noncomputable abbrev pGt:PV->PV->Rr PV:=oI (fun _ _=>true) fun i j=>.bl (decide (j<i))
noncomputable abbrev pGe:PV->PV->Rr PV:=oI (fun _ _=>true) fun i j=>.bl (decide (j<=i))
theorem ZhD {D:Int->Int->Prop}{C:Int->Int->Bool}{g:Int->Int->PV}{g':Int->Int->V} (hC:∀i j,C i j=true->D i j) (hg:∀H i j,Rep K H (fun _=>True) (g i j) (g' i j)) (hf:∀i j,(g i j).flat=true)
  (ha:DE K EX Γ Γ1 .A ta fa) (hb:DE K EX Γ1 Γ2 .A tb fb):DE K EX Γ Γ2 .P (tOp (rI D g') ta tb) (fun ρ=>(fa ρ).bind fun x=>(fb ρ).bind fun y=>oI C g x y):=
 Zge (Znm hC hg hf) (Zf1 hf) Zd3 ha hb
theorem Zaz {g:Int->Int->PV}{g':Int->Int->V} (hg:∀H i j,Rep K H (fun _=>True) (g i j) (g' i j)) (hf:∀i j,(g i j).flat=true)
  (ha:DE K EX Γ Γ1 .A ta fa) (hb:DE K EX Γ1 Γ2 .A tb fb):DE K EX Γ Γ2 .P (tOp (rI0 g') ta tb) (fun ρ=>(fa ρ).bind fun x=>(fb ρ).bind fun y=>oI (fun _ _=>true) g x y):=
 Zge (Zm1 hg hf) (Zf1 hf) Zd3 ha hb
theorem JA (ha:DE K EX Γ Γ1 .A ta fa) (hb:DE K EX Γ1 Γ2 .A tb fb):DE K EX Γ Γ2 .P (tOp (rI0 fun i j=>.int (i+j)) ta tb) (fun ρ=>(fa ρ).bind fun x=>(fb ρ).bind fun y=>Zmw x y):=Zaz (fun _ _ _=>rfl) (fun _ _=>rfl) ha hb
theorem Zgb (ha:DE K EX Γ Γ1 .A ta fa) (hb:DE K EX Γ1 Γ2 .A tb fb):DE K EX Γ Γ2 .P (tOp (rI0 fun i j=>.int (i-j)) ta tb) (fun ρ=>(fa ρ).bind fun x=>(fb ρ).bind fun y=>ZmP x y):=Zaz (fun _ _ _=>rfl) (fun _ _=>rfl) ha hb
theorem Zgf (ha:DE K EX Γ Γ1 .A ta fa) (hb:DE K EX Γ1 Γ2 .A tb fb):DE K EX Γ Γ2 .P (tOp (rI0 fun i j=>.bl (decide (i<j))) ta tb) (fun ρ=>(fa ρ).bind fun x=>(fb ρ).bind fun y=>pLt x y):=Zaz (fun _ _ _=>rfl) (fun _ _=>rfl) ha hb
theorem Zm9 (ha:DE K EX Γ Γ1 .A ta fa) (hb:DE K EX Γ1 Γ2 .A tb fb):DE K EX Γ Γ2 .P (tOp (rI0 fun i j=>.bl (decide (i<=j))) ta tb) (fun ρ=>(fa ρ).bind fun x=>(fb ρ).bind fun y=>pLe x y):=Zaz (fun _ _ _=>rfl) (fun _ _=>rfl) ha hb
theorem ZhE (ha:DE K EX Γ Γ1 .A ta fa) (hb:DE K EX Γ1 Γ2 .A tb fb):DE K EX Γ Γ2 .P (tOp (rI0 fun i j=>.bl (decide (j<i))) ta tb) (fun ρ=>(fa ρ).bind fun x=>(fb ρ).bind fun y=>pGt x y):=Zaz (fun _ _ _=>rfl) (fun _ _=>rfl) ha hb
theorem ZmA (ha:DE K EX Γ Γ1 .A ta fa) (hb:DE K EX Γ1 Γ2 .A tb fb):DE K EX Γ Γ2 .P (tOp (rI0 fun i j=>.bl (decide (j<=i))) ta tb) (fun ρ=>(fa ρ).bind fun x=>(fb ρ).bind fun y=>pGe x y):=Zaz (fun _ _ _=>rfl) (fun _ _=>rfl) ha hb
theorem Za0 (ha:DE K EX Γ Γ1 .A ta fa) (hb:DE K EX Γ1 Γ2 .A tb fb):DE K EX Γ Γ2 .P (tOp (rI ZcT fun i j=>.int (i*j)) ta tb) (fun ρ=>(fa ρ).bind fun x=>(fb ρ).bind fun y=>Zms x y):=ZhD (fun _ _ h=>of_decide_eq_true h) (fun _ _ _=>rfl) (fun _ _=>rfl) ha hb
theorem Qb (ha:DE K EX Γ Γ1 .A ta fa) (hb:DE K EX Γ1 Γ2 .A tb fb):DE K EX Γ Γ2 .P (tOp (rI ZcU fun i j=>.int (i/j)) ta tb) (fun ρ=>(fa ρ).bind fun x=>(fb ρ).bind fun y=>Zmv x y):=ZhD (fun _ _ h=>of_decide_eq_true h) (fun _ _ _=>rfl) (fun _ _=>rfl) ha hb
theorem Ji (ha:DE K EX Γ Γ1 .A ta fa) (hb:DE K EX Γ1 Γ2 .A tb fb):DE K EX Γ Γ2 .P (tOp (rI (fun _ j=>0<j) fun i j=>.int (i%j)) ta tb) (fun ρ=>(fa ρ).bind fun x=>(fb ρ).bind fun y=>ZmQ x y):=ZhD (fun _ _ h=>of_decide_eq_true h) (fun _ _ _=>rfl) (fun _ _=>rfl) ha hb
theorem ZbK (ha:DE K EX Γ Γ1 .A ta fa) (hb:DE K EX Γ1 Γ2 .A tb fb):DE K EX Γ Γ2 .P (tOp (rI ZjZ fun i j=>.int (i^j.toNat)) ta tb) (fun ρ=>(fa ρ).bind fun x=>(fb ρ).bind fun y=>ZkA x y):=ZhD (fun _ _ h=>of_decide_eq_true h) (fun _ _ _=>rfl) (fun _ _=>rfl) ha hb
noncomputable def ZlR (x:PV):Rr PV:=match x with
 |.int i=>.ok (.int (-i))
 |_=>.bad
theorem Zl4 (ha:DE K EX Γ Γ1 .A ta fa):DE K EX Γ Γ1 .P (tUn (rU fun i=>.int (-i)) ta) (fun ρ=>(fa ρ).bind ZlR):=by
 refine Zm8 (fun {H x v Q} rx ⟨z,e,q⟩=>?_) (fun x e h=>?_) ha
 ·cases x<;>first|(simp only[ZlR] at e;cases e;done)|skip
  cases e;cases rx
  exact⟨_,rfl,q rfl _ rfl⟩
 ·cases x<;>(simp only[ZlR] at h;cases h)
theorem Zem {g:Bool->Bool} (x y:PV) (e:PX):Zam g x y≠.exc e:=by
 unfold Zam
 intro h
 split at h<;>cases h
theorem Zfr {g:Bool->Bool} (x y z:PV) (h:Zam g x y=.ok z):z.flat=true:=by
 unfold Zam at h
 split at h
 ·cases h;rfl
 ·cases h
theorem Js {g:Bool->Bool} (ha:DE K EX Γ Γ1 .A ta fa) (hb:DE K EX Γ1 Γ2 .A tb fb):DE K EX Γ Γ2 .P (tOp (Zmo K g) ta tb) (fun ρ=>(fa ρ).bind fun x=>(fb ρ).bind fun y=>Zam g x y):=by
 refine Zge (fun {H x y v w Q} rx ry ⟨z,e,q⟩=>?_) Zfr Zem ha hb
 unfold Zam at e
 by_cases h:(okD x&&okD y)=true
 ·rw[if_pos h] at e;cases e
  rw[Bool.and_eq_true] at h
  exact⟨x,y,rx,ry,h.1,h.2,q rfl _ rfl⟩
 ·rw[if_neg h] at e;cases e
noncomputable def ZmR (g:Bool->Bool) (x:PV):Rr PV:=match x with
 |.non=>.ok (.bl (g true))
 |_=>.ok (.bl (g false))
theorem ZiG {x:PV}{v:V}{S:Addr->Prop} (h:Rep K H S x v):decide (v=.non)=match x with|.non=>true|_=>false:=by
 cases x<;>first|(cases h;rfl)|(obtain⟨a,vs,rfl,_⟩:=h;rfl)|(obtain⟨a,vs,c,rfl,_⟩:=h;rfl)|(obtain⟨a,o,c,d,fs,rfl,_⟩:=h;rfl)
theorem Zj8 (ha:DE K EX Γ Γ1 .A ta fa):DE K EX Γ Γ1 .P (tOp (fun x y H Q=>y=.non/\Q (.bl (!decide (x=.non))) H) ta (tC .non)) (fun ρ=>(fa ρ).bind (ZmR (!·))):=fun B H0 H σ ρ F R Q A d=>by
 refine ha B H0 H σ ρ F R _ A (d.bind.imp (fun x _ d v H1 s1 r1=>?_) fun e q=>q)
 obtain⟨F1,f1,p1,A1⟩:=r1
 have e:=ZiG p1
 refine⟨rfl, ?_⟩
 rw[e]
 cases x<;>exact d _ H1 s1 ⟨F1,f1,rfl,rfl,A1⟩
noncomputable def asB (x:PV):Rr Bool:=match x with
 |.bl b=>.ok b
 |_=>.bad
theorem Dn.asB {x:PV}{ok:Bool->Prop}{ex:PX->Prop} (d:Dn (asB x) ok ex):∃b,x=.bl b/\ok b:=by
 cases x with
 |bl b=>exact⟨b,rfl,d⟩
 |_=>exact d.elim
theorem Zl3 (ha:DE K EX Γ Γ1 .A ta fa):DE K EX Γ Γ1 .P (Zkj ta) (fun ρ=>(fa ρ).bind fun x=>(asB x).bind fun b=>.ok (.bl (!b))):=fun B H0 H σ ρ F R Q A d=>by
 refine ha B H0 H σ ρ F R _ A (d.bind.imp (fun x _ d v H1 s1 r1=>?_) fun e q=>q)
 obtain⟨b,rfl,d⟩:=d.bind.asB
 obtain⟨F1,f1,p1,A1⟩:=r1
 cases p1
 exact⟨b,rfl,d _ H1 s1 ⟨F1,f1,rfl,rfl,A1⟩⟩
theorem Res.shift {H1:Hp}{F1:Nat->List Addr}{k:Kd}{Γ2:List Md}{y:PV}{w:V}{H2:Hp} (s1:Zw H H1) (f1:∀i,∀a∈F1 i,a∈F i) (h:Res K B H0 H1 σ Γ2 ρ F1 R k y w H2):Res K B H0 H σ Γ2 ρ F R k y w H2:=by
 obtain⟨F2,f2,h⟩:=h
 refine⟨F2,fun i a ha=>f1 i a (f2 i a ha), ?_⟩
 have org:∀a,(H1 a=none\/∃i,a∈F1 i)->(H a=none\/∃i,a∈F i):=fun a h=>h.elim (fun z=>.inl (s1.free z)) fun⟨i,z⟩=>.inr ⟨i,f1 i a z⟩
 cases k with
 |P=>exact h
 |F=>obtain⟨G,h1,h2,h3⟩:=h;exact⟨G,h1,fun a ha=>⟨(h2 a ha).1,org a (h2 a ha).2⟩,h3⟩
 |T=>obtain⟨a,vs,xs,h1,h2,h3,h4,h5,h6,h7⟩:=h;exact⟨a,vs,xs,h1,h2,h3,h4,h5,org a h6,h7⟩
 |Z=>exact h
 |A=>exact h
 |N=>exact h.elim
theorem ZdP (ha:DE K EX Γ Γ .A ta fa) (hb:DE K EX Γ Γ .P tb fb):DE K EX Γ Γ .P (Zkp ta tb) (fun ρ=>(fa ρ).bind fun x=>(asB x).bind fun b=>if b=true then fb ρ else .ok (.bl false)):=fun B H0 H σ ρ F R Q A d=>by
 refine ha B H0 H σ ρ F R _ A (d.bind.imp (fun x _ d v H1 s1 r1=>?_) fun e q=>q)
 obtain⟨b,rfl,d⟩:=d.bind.asB
 obtain⟨F1,f1,p1,A1⟩:=r1
 cases p1
 refine⟨b,rfl, ?_⟩
 cases b with
 |true=>exact hb B H0 H1 σ ρ F1 R _ A1 (d.imp (fun y _ q w H2 s2 r2=>q w H2 (s1.trans s2) (r2.shift s1 f1)) fun e q=>q)
 |false=>exact d _ H1 s1 ⟨F1,f1,rfl,rfl,A1⟩
theorem Z7 (ha:DE K EX Γ Γ' .A ta fa):DT K EX Γ Γ' (Zi7 ta) (fun ρ=>(fa ρ).bind asB):=fun B H0 H σ ρ F R Q A d=>by
 refine ha B H0 H σ ρ F R _ A (d.bind.imp (fun x _ d v H1 s1 r1=>?_) fun e q=>q)
 obtain⟨b,rfl,d⟩:=d.asB
 obtain⟨F1,f1,p1,A1⟩:=r1
 cases p1
 exact⟨b,rfl,d H1 F1 s1 f1 A1⟩
theorem Zbf (ha:DE K EX Γ Γ' .A ta fa):DT K EX Γ Γ' (tB ta) (fun ρ=>(fa ρ).bind asB):=Z7 ha
theorem VI {c d:TT}{fc fd:List PV->Rr Bool} (hc:DT K EX Γ Γ c fc) (hd:DT K EX Γ Γ d fd):DT K EX Γ Γ (tOr c d) (fun ρ=>(fc ρ).bind fun b=>if b=true then .ok true else fd ρ):=fun B H0 H σ ρ F R Q A dn=>by
 refine hc B H0 H σ ρ F R _ A (dn.bind.imp (fun b _ dn H1 F1 s1 f1 A1=>?_) fun e q=>q)
 cases b with
 |false=>exact hd B H0 H1 σ ρ F1 R _ A1 (dn.imp (fun y _ q H2 F2 s2 f2 A2=>q H2 F2 (s1.trans s2) (fun i a h=>f1 i a (f2 i a h)) A2) fun e q=>q)
 |true=>exact dn H1 F1 s1 f1 A1
theorem JX {c:TT}{fc:List PV->Rr Bool} (hc:DT K EX Γ Γ' c fc):DT K EX Γ Γ' (Zmj c) (fun ρ=>(fc ρ).bind fun b=>.ok (!b)):=fun B H0 H σ ρ F R Q A dn =>
 hc B H0 H σ ρ F R _ A (dn.bind.imp (fun b _ dn H1 F1 s1 f1 A1=>dn H1 F1 s1 f1 A1) fun e q=>q)
end
def DAA (K:W.Frag) (EX:PX->Hp->Prop) (Γ Γ':List Md) (ta:TA) (f:List PV->Rr (List PV)):Prop:=
 ∀(B:Addr->Prop) (H0 H:Hp) (σ:St) (ρ:List PV) (F:Nat->List Addr) (R:List Addr) (Q:List V->Hp->Prop),Ag K B H0 H σ Γ ρ F R ->
  Dn (f ρ) (fun xs=>∀vs H' F',Zw H H'->(∀i,∀a∈F' i,a∈F i)->Reps K H' (fun _=>True) xs vs->Ag K B H0 H' σ Γ' ρ F' R->Q vs H') (fun e=>∀H',Zw H0 H'->EX e H')->ta σ H Q
def DAF (K:W.Frag) (EX:PX->Hp->Prop) (Γ Γ':List Md) (ta:TA) (f:List PV->Rr (List PV)):Prop:=
 ∀(B:Addr->Prop) (H0 H:Hp) (σ:St) (ρ:List PV) (F:Nat->List Addr) (R:List Addr) (Q:List V->Hp->Prop),Ag K B H0 H σ Γ ρ F R ->
  Dn (f ρ) (fun xs=>∀vs H' F' G,Zw H H'->(∀i,∀a∈F' i,a∈F i)->Trees K H' xs vs G->(∀a∈G,a ∉ R/\(H a=none\/∃i,a∈F i))->Ag K B H0 H' σ Γ' ρ F' (G++R)->Q vs H') (fun e=>∀H',Zw H0 H'->EX e H')->ta σ H Q
def DAZ (K:W.Frag) (EX:PX->Hp->Prop) (Γ Γ':List Md) (ta:TA) (f:List PV->Rr (List PV)):Prop:=
 ∀(B:Addr->Prop) (H0 H:Hp) (σ:St) (ρ:List PV) (F:Nat->List Addr) (R:List Addr) (Q:List V->Hp->Prop),Ag K B H0 H σ Γ ρ F R ->
  Dn (f ρ) (fun xs=>∀vs H' F',Zw H H'->(∀i,∀a∈F' i,a∈F i)->Reps K H' (NO B F' R) xs vs->Ag K B H0 H' σ Γ' ρ F' R->Q vs H') (fun e=>∀H',Zw H0 H'->EX e H')->ta σ H Q
section
variable {K:W.Frag}{B:Addr->Prop}{EX:PX->Hp->Prop}{H0 H H':Hp}{σ:St}{Γ Γ' Γ1 Γ2:List Md}{ρ:List PV}{F F':Nat->List Addr}{R:List Addr}{k:Kd}{x:PV}{v:V}{te tb:TE}{ta:TA}{f fb:List PV->Rr PV}{fa:List PV->Rr (List PV)}
theorem Zf:DAA K EX Γ Γ Zbe (fun _=>.ok []):=fun B H0 H σ ρ F R Q A d=>d [] H F (Zw.refl H) (fun _ _ h=>h) rfl A
theorem Zb (he:DE K EX Γ Γ1 .A te f) (ha:DAA K EX Γ1 Γ2 ta fa):DAA K EX Γ Γ2 (VX te ta) (fun ρ=>(f ρ).bind fun x=>(fa ρ).bind fun xs=>.ok (x::xs)):=fun B H0 H σ ρ F R Q A d=>by
 refine he B H0 H σ ρ F R _ A (d.bind.imp (fun x _ d v H1 s1 r1=>?_) fun e q=>q)
 obtain⟨F1,f1,p1,A1⟩:=r1
 refine ha B H0 H1 σ ρ F1 R _ A1 (d.bind.imp (fun xs _ d vs H2 F2 s2 f2 p2 A2=>?_) fun e q=>q)
 exact d (v::vs) H2 F2 (s1.trans s2) (fun i a h=>f1 i a (f2 i a h)) ⟨v,vs,rfl,p1.same s2,p2⟩ A2
theorem J0:DAF K EX Γ Γ Zbe (fun _=>.ok []):=fun B H0 H σ ρ F R Q A d=>d [] H F [] (Zw.refl H) (fun _ _ h=>h) ⟨rfl,rfl⟩ (by simp) A
theorem ZM (he:DE K EX Γ Γ1 .F te f) (ha:DAF K EX Γ1 Γ2 ta fa):DAF K EX Γ Γ2 (VX te ta) (fun ρ=>(f ρ).bind fun x=>(fa ρ).bind fun xs=>.ok (x::xs)):=fun B H0 H σ ρ F R Q A d=>by
 refine he B H0 H σ ρ F R _ A (d.bind.imp (fun x _ d v H1 s1 r1=>?_) fun e q=>q)
 obtain⟨F1,f1,G1,p1,o1,A1⟩:=r1
 refine ha B H0 H1 σ ρ F1 (G1++R) _ A1 (d.bind.imp (fun xs _ d vs H2 F2 G2 s2 f2 p2 o2 A2=>?_) fun e q=>q)
 refine d (v::vs) H2 F2 (G1++G2) (s1.trans s2) (fun i a h=>f1 i a (f2 i a h)) ⟨v,vs,G1,G2,rfl,p1.same s2,p2,fun a ha z=>(o2 a z).1 (ZsW _ ha),rfl⟩ (fun a ha=>?_) (A2.less fun a ha=>?_)
 ·rcases ZsS.mp ha with z|z
  ·exact o1 a z
  ·obtain⟨o3,o4⟩:=o2 a z
   exact⟨fun q=>o3 (ZsT _ q),o4.elim (fun q=>.inl (s1.free q)) fun⟨i,q⟩=>.inr ⟨i,f1 i a q⟩⟩
 ·simp only[ZsS] at ha ⊢
  rcases ha with (z|z)|z
  ·exact .inr (.inl z)
  ·exact .inl z
  ·exact .inr (.inr z)
theorem Zgh:DAZ K EX Γ Γ Zbe (fun _=>.ok []):=fun B H0 H σ ρ F R Q A d=>d [] H F (Zw.refl H) (fun _ _ h=>h) rfl A
theorem ZhG (he:DE K EX Γ Γ1 .Z te f) (ha:DAZ K EX Γ1 Γ2 ta fa):DAZ K EX Γ Γ2 (VX te ta) (fun ρ=>(f ρ).bind fun x=>(fa ρ).bind fun xs=>.ok (x::xs)):=fun B H0 H σ ρ F R Q A d=>by
 refine he B H0 H σ ρ F R _ A (d.bind.imp (fun x _ d v H1 s1 r1=>?_) fun e q=>q)
 obtain⟨F1,f1,p1,A1⟩:=r1
 refine ha B H0 H1 σ ρ F1 R _ A1 (d.bind.imp (fun xs _ d vs H2 F2 s2 f2 p2 A2=>?_) fun e q=>q)
 refine d (v::vs) H2 F2 (s1.trans s2) (fun i a h=>f1 i a (f2 i a h)) ⟨v,vs,rfl, ?_,p2⟩ A2
 exact Rep.mono (fun a us s r=>⟨r.same s2,s.1,s.2.1,fun i z=>s.2.2 i (f2 i a z)⟩) (fun a us r=>s2.im r) p1
noncomputable def mkT (xs:List PV):Rr PV:=if xs.length<=1000 then .ok (.tup xs) else .bad
noncomputable def mkL (xs:List PV):Rr PV:=if xs.length<=1000 then .ok (.lst xs) else .bad
theorem Dn.mkT {xs:List PV}{ok:PV->Prop}{ex:PX->Prop} (d:Dn (mkT xs) ok ex):xs.length<=1000/\ok (.tup xs):=by
 unfold L2.mkT at d
 by_cases h:xs.length<=1000
 ·rw[if_pos h] at d;exact⟨h,d⟩
 ·rw[if_neg h] at d;exact d.elim
theorem Dn.mkL {xs:List PV}{ok:PV->Prop}{ex:PX->Prop} (d:Dn (mkL xs) ok ex):xs.length<=1000/\ok (.lst xs):=by
 unfold L2.mkL at d
 by_cases h:xs.length<=1000
 ·rw[if_pos h] at d;exact⟨h,d⟩
 ·rw[if_neg h] at d;exact d.elim
theorem ZaU (ha:DAF K EX Γ Γ' ta fa):DE K EX Γ Γ' .F (Zmi ta) (fun ρ=>(fa ρ).bind mkT):=fun B H0 H σ ρ F R Q A d=>by
 refine ha B H0 H σ ρ F R _ A (d.bind.imp (fun xs _ d vs H1 F1 G s1 f1 p1 o1 A1=>?_) fun e q=>q)
 obtain⟨hl,d⟩:=d.mkT
 refine⟨by rw[p1.length];exact U3 hl,fun p hp=>?_⟩
 have e:Zw H1 (upd H1 p (.tup vs)):=Zw.new hp
 exact d _ _ (s1.trans e) ⟨F1,f1,G,⟨p,vs,rfl,⟨Z2,trivial⟩,p1.same e⟩,o1,A1.grow e⟩
theorem QS (ha:DAA K EX Γ Γ' ta fa):DE K EX Γ Γ' .A (Zmi ta) (fun ρ=>(fa ρ).bind mkT):=fun B H0 H σ ρ F R Q A d=>by
 refine ha B H0 H σ ρ F R _ A (d.bind.imp (fun xs _ d vs H1 F1 s1 f1 p1 A1=>?_) fun e q=>q)
 obtain⟨hl,d⟩:=d.mkT
 refine⟨by rw[p1.length];exact U3 hl,fun p hp=>?_⟩
 have e:Zw H1 (upd H1 p (.tup vs)):=Zw.new hp
 exact d _ _ (s1.trans e) ⟨F1,f1,⟨p,vs,rfl,⟨Z2,trivial⟩,p1.same e⟩,A1.grow e⟩
theorem Res.newF {H1:Hp}{F1:Nat->List Addr}{G:List Addr}{xs:List PV}{vs:List V}{p:Addr} (s1:Zw H H1) (f1:∀i,∀a∈F1 i,a∈F i) (p1:Trees K H1 xs vs G) (o1:∀a∈G,a ∉ R/\(H a=none\/∃i,a∈F i)) (A1:Ag K B H0 H1 σ Γ' ρ F1 (G++R)) (hp:H1 p=none) :
  Res K B H0 H σ Γ' ρ F R .F (.lst xs) (.ref p) (upd H1 p (.lst vs)):=by
 have e:Zw H1 (upd H1 p (.lst vs)):=Zw.new hp
 have hf:=A1.fresh hp
 refine⟨F1,f1,p::G,⟨p,vs,G,rfl,Z2,p1.same e,fun z=>hf.1 (ZsW _ z),rfl⟩,fun a ha=>?_,A1.new hp⟩
 rcases ZsZ.mp ha with rfl|z
 ·exact⟨fun z=>hf.1 (ZsT _ z),.inl (s1.free hp)⟩
 ·exact o1 a z
theorem Res.newP {H1:Hp}{F1:Nat->List Addr}{xs:List PV}{vs:List V}{p:Addr}{S:Addr->Prop} (s1:Zw H H1) (f1:∀i,∀a∈F1 i,a∈F i) (p1:Reps K H1 S xs vs) (hx:PV.flats xs=true) (A1:Ag K B H0 H1 σ Γ' ρ F1 R) (hp:H1 p=none) :
  Res K B H0 H σ Γ' ρ F R .F (.lst xs) (.ref p) (upd H1 p (.lst vs)):=Res.newF (G:=[]) s1 f1 (p1.trees hx) (by simp) A1 hp
theorem Res.newT {H1:Hp}{F1:Nat->List Addr}{xs:List PV}{vs:List V}{p:Addr} (s1:Zw H H1) (f1:∀i,∀a∈F1 i,a∈F i) (p1:Reps K H1 (NO B F1 R) xs vs) (A1:Ag K B H0 H1 σ Γ' ρ F1 R) (hp:H1 p=none) :
  Res K B H0 H σ Γ' ρ F R .T (.lst xs) (.ref p) (upd H1 p (.lst vs)):=by
 have e:Zw H1 (upd H1 p (.lst vs)):=Zw.new hp
 have hf:=A1.fresh hp
 refine⟨F1,f1,p,vs,xs,rfl,rfl,Z2, ?_,hf.1,.inl (s1.free hp),A1.new hp⟩
 refine Reps.mono (fun a us s r=>⟨r.same e,s.1,fun z=>?_,s.2.2⟩) (fun a us r=>e.im r) p1
 rcases ZsZ.mp z with rfl|z
 ·rcases r with r|⟨o,r⟩<;>(rw[hp] at r;cases r)
 ·exact s.2.1 z
theorem Vz (ha:DAF K EX Γ Γ' ta fa):DE K EX Γ Γ' .F (Zkk ta) (fun ρ=>(fa ρ).bind mkL):=fun B H0 H σ ρ F R Q A d=>by
 refine ha B H0 H σ ρ F R _ A (d.bind.imp (fun xs _ d vs H1 F1 G s1 f1 p1 o1 A1=>?_) fun e q=>q)
 obtain⟨hl,d⟩:=d.mkL
 refine⟨by rw[p1.length];exact U3 hl,fun p hp=>d _ _ (s1.trans (Zw.new hp)) (Res.newF s1 f1 p1 o1 A1 hp)⟩
theorem ZjA (ha:DAZ K EX Γ Γ' ta fa):DE K EX Γ Γ' .T (Zkk ta) (fun ρ=>(fa ρ).bind mkL):=fun B H0 H σ ρ F R Q A d=>by
 refine ha B H0 H σ ρ F R _ A (d.bind.imp (fun xs _ d vs H1 F1 s1 f1 p1 A1=>?_) fun e q=>q)
 obtain⟨hl,d⟩:=d.mkL
 refine⟨by rw[p1.length];exact U3 hl,fun p hp=>d _ _ (s1.trans (Zw.new hp)) (Res.newT s1 f1 p1 A1 hp)⟩
noncomputable def pIx (x y:PV):Rr PV:=match x,y with
 |.lst xs,.int i=>match atI xs i with
  |some z=>.ok z
  |none=>.bad
 |.tup xs,.int i=>match atI xs i with
  |some z=>.ok z
  |none=>.bad
 |_,_=>.bad
theorem ZeX {S:Addr->Prop}{xs:List PV}{vs:List V}{i:Int}{z:PV} (h:Reps K H S xs vs) (e:atI xs i=some z):∃u,atI vs i=some u/\Rep K H S z u:=by
 unfold atI at e ⊢
 rw[h.length]
 cases q:ixN xs.length i with
 |none=>rw[q] at e;cases e
 |some j =>
  rw[q] at e
  obtain⟨u,e1,e2⟩:=h.get e
  exact⟨u,e1,e2⟩
theorem ZeV {S:Addr->Prop}{x y z:PV}{v w:V}{Q:VK} (hx:Rep K H S x v) (hy:Rep K H (fun _=>True) y w) (e:pIx x y=.ok z) (q:∀u,Rep K H S z u->Q u H):rIx K v w H Q:=by
 cases x<;>cases y<;>first|(simp only[pIx] at e;cases e;done)|skip
 ·rename_i xs i
  obtain⟨a,vs,rfl,hn,hr⟩:=hx
  cases hy
  simp only[pIx] at e
  cases e1:atI xs i with
  |none=>rw[e1] at e;cases e
  |some z' =>
   rw[e1] at e;cases e
   obtain⟨u,e2,e3⟩:=ZeX hr e1
   exact .inl ⟨a,vs,i,u,rfl,rfl,V5 hn,e2,q u e3⟩
 ·rename_i xs i
  obtain⟨a,vs,rfl,hn,hr⟩:=hx
  cases hy
  simp only[pIx] at e
  cases e1:atI xs i with
  |none=>rw[e1] at e;cases e
  |some z' =>
   rw[e1] at e;cases e
   obtain⟨u,e2,e3⟩:=ZeX hr e1
   exact .inr (.inl ⟨a,vs,i,u,rfl,rfl,hn.sqT,e2,q u e3⟩)
theorem Zby (x y:PV) (e:PX):pIx x y≠.exc e:=by
 cases x<;>cases y<;>first|(intro h;simp only[pIx] at h;cases h;done)|skip
 all_goals
  intro h
  simp only[pIx] at h
  split at h<;>cases h
theorem Dn.pIx {x y:PV}{ok:PV->Prop}{ex:PX->Prop} (d:Dn (pIx x y) ok ex):∃z,pIx x y=.ok z/\ok z:=by
 cases e:L2.pIx x y with
 |ok z=>rw[e] at d;exact⟨z,rfl,d⟩
 |exc q=>exact absurd e (Zby x y q)
 |bad=>rw[e] at d;exact d.elim
theorem Z4 {te ta':TE}{fa':List PV->Rr PV} (ha:DE K EX Γ Γ1 .A ta' fa') (hb:DE K EX Γ1 Γ2 .A tb fb):DE K EX Γ Γ2 .A (tOp (rIx K) ta' tb) (fun ρ=>(fa' ρ).bind fun x=>(fb ρ).bind fun y=>pIx x y):=fun B H0 H σ ρ F R Q A d=>by
 refine two ha hb A d.bind2 fun x y v w H' F' d s hF p1 p2 A'=>?_
 obtain⟨z,e,d⟩:=d.pIx
 exact ZeV p1 p2 e fun u hu=>d u H' s ⟨F',hF,hu,A'⟩
theorem Zir {te ta':TE}{fa':List PV->Rr PV} (ha:DE K EX Γ Γ1 .Z ta' fa') (hb:DE K EX Γ1 Γ2 .A tb fb):DE K EX Γ Γ2 .Z (tOp (rIx K) ta' tb) (fun ρ=>(fa' ρ).bind fun x=>(fb ρ).bind fun y=>pIx x y):=fun B H0 H σ ρ F R Q A d=>by
 refine ha B H0 H σ ρ F R _ A (d.bind.imp (fun x _ d v H1 s1 r1=>?_) fun e q=>q)
 obtain⟨F1,f1,p1,A1⟩:=r1
 refine hb B H0 H1 σ ρ F1 R _ A1 (d.bind.imp (fun y _ d w H2 s2 r2=>?_) fun e q=>q)
 obtain⟨F2,f2,p2,A2⟩:=r2
 obtain⟨z,e,d⟩:=d.pIx
 have p1':Rep K H2 (NO B F2 R) x v:=Rep.mono (fun a us s r=>⟨r.same s2,s.1,s.2.1,fun i z=>s.2.2 i (f2 i a z)⟩) (fun a us r=>s2.im r) p1
 exact ZeV p1' p2 e fun u hu=>d u H2 (s1.trans s2) ⟨F2,fun i a h=>f1 i a (f2 i a h),hu,A2⟩
def CbP (K:W.Frag) (r:List V->Hp->VK->Prop) (o:List PV->Rr PV):Prop:=∀{H:Hp}{xs:List PV}{vs:List V}{Q:VK},Reps K H (fun _=>True) xs vs->∀z,o xs=.ok z->z.flat=true/\((∀u,Rep K H (fun _=>True) z u->Q u H)->r vs H Q)
theorem Ze2 {r:List V->Hp->VK->Prop}{o:List PV->Rr PV} (hr:CbP K r o) (hx:∀xs e,o xs≠.exc e) (ha:DAA K EX Γ Γ' ta fa):DE K EX Γ Γ' .P (tCB r ta) (fun ρ=>(fa ρ).bind o):=fun B H0 H σ ρ F R Q A d=>by
 refine ha B H0 H σ ρ F R _ A (d.bind.imp (fun xs _ d vs H1 F1 s1 f1 p1 A1=>?_) fun e q=>q)
 cases e:o xs with
 |ok z =>
  rw[e] at d
  obtain⟨hf,h⟩:=hr (Q:=Q) p1 z e
  exact h fun u hu=>d u H1 s1 ⟨F1,f1,hf,hu,A1⟩
 |exc q=>exact absurd e (hx xs q)
 |bad=>rw[e] at d;exact d.elim
noncomputable def Zg5 (xs:List PV):Rr PV:=match xs with
 |[.lst ys]=>.ok (.int ys.length)
 |[.tup ys]=>.ok (.int ys.length)
 |_=>.bad
theorem UL {S:Addr->Prop}{x:PV}{vs:List V} (h:Reps K H S [x] vs):∃v,vs=[v]/\Rep K H S x v:=by
 obtain⟨v,r,rfl,h1,h2⟩:=h
 cases h2
 exact⟨v,rfl,h1⟩
theorem Zkx {S:Addr->Prop}{x y:PV}{vs:List V} (h:Reps K H S [x,y] vs):∃v w,vs=[v,w]/\Rep K H S x v/\Rep K H S y w:=by
 obtain⟨v,r,rfl,h1,w,r',rfl,h2,h3⟩:=h
 cases h3
 exact⟨v,w,rfl,h1,h2⟩
theorem Jj (ha:DAA K EX Γ Γ' ta fa):DE K EX Γ Γ' .P (tCB (fun xs H Q=>∃p ys,xs=[.ref p]/\(SqL K H p ys\/SqT K H p ys)/\Q (.int ys.length) H) ta) (fun ρ=>(fa ρ).bind Zg5):=by
 refine Ze2 (fun {H xs vs Q} h z e=>?_) (fun xs e h=>?_) ha
 ·unfold Zg5 at e
  split at e<;>first|(cases e;done)|skip
  all_goals
   cases e
   refine⟨rfl,fun q=>?_⟩
   obtain⟨v,rfl,a,ws,rfl,hn,hr⟩:=UL h
   refine⟨a,ws,rfl, ?_,by rw[hr.length];exact q _ rfl⟩
   first|exact .inl (V5 (S:=fun _=>True) hn)|exact .inr hn.sqT
 ·unfold Zg5 at h;split at h<;>cases h
noncomputable def Uc:List PV->Option (List Int)
 |[]=>some []
 |.int i::xs=>(Uc xs).map (i::·)
 |_::_=>none
@[simp] theorem Zew (ns:List Int):Uc (ns.map PV.int)=some ns:=by
 induction ns with
 |nil=>rfl
 |cons n ns ih=>simp[Uc,ih]
theorem U6:∀{xs:List PV}{ns:List Int},Uc xs=some ns->xs=ns.map PV.int
 |[],_,h=>by cases h;rfl
 |.int i::xs,ns,h=>by
  simp only[Uc] at h
  cases e:Uc xs with
  |none=>rw[e] at h;cases h
  |some ms=>rw[e] at h;cases h;rw[U6 e];rfl
 |.non::_,_,h=>by cases h
 |.bl _::_,_,h=>by cases h
 |.str _::_,_,h=>by cases h
 |.exc _::_,_,h=>by cases h
 |.exa _ _::_,_,h=>by cases h
 |.box _ _ _::_,_,h=>by cases h
 |.lst _::_,_,h=>by cases h
 |.tup _::_,_,h=>by cases h
theorem Q9 {S:Addr->Prop}:∀{ns:List Int}{vs:List V},Reps K H S (ns.map PV.int) vs->vs=ns.map V.int
 |[],_,h=>h
 |n::ns,_,h=>by
  obtain⟨v,r,rfl,h1,h2⟩:=h
  cases h1
  rw[Q9 h2];rfl
theorem ZbC {S:Addr->Prop}:∀(ns:List Int),Reps K H S (ns.map PV.int) (ns.map V.int)
 |[]=>rfl
 |n::ns=>⟨_,_,rfl,rfl,ZbC ns⟩
theorem Qm {S:Addr->Prop}{ns:List Int}{v:V} (h:Rep K H S (.lst (ns.map PV.int)) v):∃a,v=.ref a/\SqL K H a (ns.map V.int):=by
 obtain⟨a,vs,rfl,hn,hr⟩:=h
 rw[Q9 hr] at hn
 exact⟨a,rfl,V5 hn⟩
noncomputable def Zb0 (g:List Int->Rr PV) (xs:List PV):Rr PV:=match xs with
 |[.lst ys]=>match Uc ys with
  |some ns=>g ns
  |none=>.bad
 |_=>.bad
theorem Rr.ints {g:List Int->Rr PV}{xs:List PV}{z:PV} (e:Zb0 g xs=.ok z):∃ns,xs=[.lst (ns.map PV.int)]/\g ns=.ok z:=by
 unfold Zb0 at e
 split at e
 ·split at e
  ·rename_i ns h
   exact⟨ns,by rw[U6 h],e⟩
  ·cases e
 ·cases e
theorem QH {g:List Int->Rr PV} (hg:∀ns e,g ns≠.exc e) (xs:List PV) (e:PX):Zb0 g xs≠.exc e:=by
 intro h
 unfold Zb0 at h
 split at h
 ·split at h
  ·exact hg _ _ h
  ·cases h
 ·cases h
noncomputable abbrev Zmr:=Zb0 fun ns=>.ok (.int ns.sum)
theorem Zax (ha:DAA K EX Γ Γ' ta fa):DE K EX Γ Γ' .P (tCB (fun xs H Q=>∃p,∃ns:List Int,xs=[.ref p]/\SqL K H p (ns.map V.int)/\Q (.int ns.sum) H) ta) (fun ρ=>(fa ρ).bind Zmr):=by
 refine Ze2 (fun {H xs vs Q} h z e=>?_) (QH fun ns e h=>by cases h) ha
 obtain⟨ns,rfl,e'⟩:=Rr.ints e
 cases e'
 obtain⟨v,rfl,h1⟩:=UL h
 obtain⟨a,rfl,h2⟩:=Qm h1
 exact⟨rfl,fun q=>⟨a,ns,rfl,h2,q _ rfl⟩⟩
noncomputable def Zct:List Int->Int
 |[]=>0
 |[n]=>n
 |n::ns=>min n (Zct ns)
theorem U0:∀{ns:List Int},ns≠[]->Zct ns∈ns
 |[],h=>absurd rfl h
 |[n],_=>by simp[Zct]
 |n::m::ns,_=>by
  have:=U0 (ns:=m::ns) (by simp)
  show min n (Zct (m::ns))∈n::m::ns
  rcases Int.le_total n (Zct (m::ns)) with h|h
  ·rw[Int.min_eq_left h];simp
  ·rw[Int.min_eq_right h];exact Ztx _ this
theorem Zcs:∀{ns:List Int}{x:Int},x∈ns->Zct ns<=x
 |[n],x,h=>by simp at h;subst h;exact ZuF _
 |n::m::ns,x,h=>by
  show min n (Zct (m::ns))<=x
  rcases ZsZ.mp h with rfl|h
  ·exact Int.min_le_left _ _
  ·exact Int.le_trans (Int.min_le_right _ _) (Zcs h)
theorem Zf6 {ns:List Int}{m:Int} (h1:m∈ns) (h2:∀a∈ns,m<=a):m=Zct ns:=Int.le_antisymm (h2 _ (U0 (List.ne_nil_of_mem h1))) (Zcs h1)
noncomputable abbrev Zmt:=Zb0 fun ns=>if ns=[] then .bad else .ok (.int (Zct ns))
theorem Zl5 (ha:DAA K EX Γ Γ' ta fa):DE K EX Γ Γ' .P (tCB (Zk0 K) ta) (fun ρ=>(fa ρ).bind Zmt):=by
 refine Ze2 (fun {H xs vs Q} h z e=>?_) (QH fun ns e h=>by split at h<;>cases h) ha
 obtain⟨ns,rfl,e'⟩:=Rr.ints e
 by_cases hn:ns=[]
 ·rw[if_pos hn] at e';cases e'
 rw[if_neg hn] at e'
 cases e'
 obtain⟨v,rfl,h1⟩:=UL h
 obtain⟨a,rfl,h2⟩:=Qm h1
 exact⟨rfl,fun q=>⟨a,ns,rfl,h2,ZuG.mpr hn,fun m hm hl=>by rw[Zf6 hm hl];exact q _ rfl⟩⟩
noncomputable def ZcN:List PV->Option (List Bool)
 |[]=>some []
 |.bl i::xs=>(ZcN xs).map (i::·)
 |_::_=>none
@[simp] theorem Zgz (ns:List Bool):ZcN (ns.map PV.bl)=some ns:=by
 induction ns with
 |nil=>rfl
 |cons n ns ih=>simp[ZcN,ih]
theorem ZdX:∀{xs:List PV}{ns:List Bool},ZcN xs=some ns->xs=ns.map PV.bl
 |[],_,h=>by cases h;rfl
 |.bl i::xs,ns,h=>by
  simp only[ZcN] at h
  cases e:ZcN xs with
  |none=>rw[e] at h;cases h
  |some ms=>rw[e] at h;cases h;rw[ZdX e];rfl
 |.non::_,_,h=>by cases h
 |.int _::_,_,h=>by cases h
 |.str _::_,_,h=>by cases h
 |.exc _::_,_,h=>by cases h
 |.exa _ _::_,_,h=>by cases h
 |.box _ _ _::_,_,h=>by cases h
 |.lst _::_,_,h=>by cases h
 |.tup _::_,_,h=>by cases h
theorem Zdm {S:Addr->Prop}:∀{ns:List Bool}{vs:List V},Reps K H S (ns.map PV.bl) vs->vs=ns.map V.bl
 |[],_,h=>h
 |n::ns,_,h=>by
  obtain⟨v,r,rfl,h1,h2⟩:=h
  cases h1
  rw[Zdm h2];rfl
noncomputable def ZkP (xs:List PV):Rr PV:=match xs with
 |[.lst ys]=>match ZcN ys with
  |some bs=>.ok (.bl (bs.all id))
  |none=>.bad
 |_=>.bad
theorem Zl8 (ha:DAA K EX Γ Γ' ta fa):DE K EX Γ Γ' .P (tCB (fun xs H Q=>∃p,∃bs:List Bool,xs=[.ref p]/\SqL K H p (bs.map V.bl)/\Q (.bl (bs.all id)) H) ta) (fun ρ=>(fa ρ).bind ZkP):=by
 refine Ze2 (fun {H xs vs Q} h z e=>?_) (fun xs e h=>?_) ha
 ·unfold ZkP at e
  split at e
  ·split at e
   ·rename_i bs hb
    cases e
    rw[ZdX hb] at h
    obtain⟨v,rfl,a,ws,rfl,hn,hr⟩:=UL h
    rw[Zdm hr] at hn
    exact⟨rfl,fun q=>⟨a,bs,rfl,V5 (S:=fun _=>True) hn,q _ rfl⟩⟩
   ·cases e
  ·cases e
 ·unfold ZkP at h
  split at h
  ·split at h<;>cases h
  ·cases h
noncomputable def ZkL (xs:List PV):Rr PV:=match xs with
 |[.int i]=>.ok (.int i)
 |[.bl b]=>.ok (.int (if b then 1 else 0))
 |_=>.bad
theorem ZhB (ha:DAA K EX Γ Γ' ta fa):DE K EX Γ Γ' .P (tCB (fun xs H Q=>(∃i,xs=[.int i]/\Q (.int i) H)\/∃k,xs=[.bl k]/\Q (.int (if k then 1 else 0)) H) ta) (fun ρ=>(fa ρ).bind ZkL):=by
 refine Ze2 (fun {H xs vs Q} h z e=>?_) (fun xs e h=>?_) ha
 ·unfold ZkL at e
  split at e<;>first|(cases e;done)|skip
  ·cases e
   obtain⟨v,rfl,h1⟩:=UL h
   cases h1
   exact⟨rfl,fun q=>.inl ⟨_,rfl,q _ rfl⟩⟩
  ·cases e
   obtain⟨v,rfl,h1⟩:=UL h
   cases h1
   exact⟨rfl,fun q=>.inr ⟨_,rfl,q _ rfl⟩⟩
 ·unfold ZkL at h;split at h<;>cases h
end
theorem VQ {n:Nat} (h:n<=1000000):n<=sizeLine:=Ztu h (by decide)
section
end
def Frm (H:Hp) (F:Nat->List Addr) (H':Hp) (F':Nat->List Addr):Prop:=∀a o,H a=some o->(∀i,a ∉ F i)->H' a=some o/\∀i,a ∉ F' i
theorem Frm.refl {H:Hp}{F:Nat->List Addr}:Frm H F H F:=fun a o h n=>⟨h,n⟩
theorem Frm.trans {H H1 H2:Hp}{F F1 F2:Nat->List Addr} (h1:Frm H F H1 F1) (h2:Frm H1 F1 H2 F2):Frm H F H2 F2:=fun a o h n=>let ⟨h3,n3⟩:=h1 a o h n;h2 a o h3 n3
theorem Frm.of {H H':Hp}{F F':Nat->List Addr} (s:Zw H H') (f:∀i,∀a∈F' i,a∈F i):Frm H F H' F':=fun a o h n=>⟨s a o h,fun i z=>n i (f i a z)⟩
def ItP (K:W.Frag) (S:Addr->Prop) (J:It) (xs:List PV) (H:Hp):Prop:=
 ∀i,(∀x,xs[i]?=some x->J.go i H/\∀v H',J.yld i H v H'->Zw H H'/\Rep K H' S x v)/\(xs[i]?=none->J.stop i H)
def DI (K:W.Frag) (EX:PX->Hp->Prop) (Γ Γ':List Md) (wi:TI) (f:List PV->Rr (List PV)):Prop:=
 ∀(B:Addr->Prop) (H0 H:Hp) (σ:St) (ρ:List PV) (F:Nat->List Addr) (R:List Addr) (Q:It->Hp->Prop),Ag K B H0 H σ Γ ρ F R ->
  Dn (f ρ) (fun xs=>∀J H' F',Zw H H'->(∀i,∀a∈F' i,a∈F i)->Ag K B H0 H' σ Γ' ρ F' R->(∀H2 F2,Frm H' F' H2 F2->ItP K (fun a=>NO B F2 R a/\H' a≠none/\∀i,a ∉ F' i) J xs H2)->Q J H') (fun e=>∀H',Zw H0 H'->EX e H')->wi σ H Q
def DIc (K:W.Frag) (EX:PX->Hp->Prop) (Γ Γ':List Md) (wi:TI) (f:List PV->Rr (List PV)):Prop:=
 ∀(B:Addr->Prop) (H0 H:Hp) (σ:St) (ρ:List PV) (F:Nat->List Addr) (R:List Addr) (Q:It->Hp->Prop),Ag K B H0 H σ Γ ρ F R ->
  Dn (f ρ) (fun xs=>∀J H' F',Zw H H'->(∀i,∀a∈F' i,a∈F i)->Ag K B H0 H' σ Γ' ρ F' R->(∀H2 F2,Zw H' H2->(∀i,∀a∈F2 i,a∈F' i)->ItP K (fun a=>NO B F2 R a/\H' a≠none/\∀i,a ∉ F' i) J xs H2)->Q J H') (fun e=>∀H',Zw H0 H'->EX e H')->wi σ H Q
theorem DI.c {K:W.Frag}{EX:PX->Hp->Prop}{Γ Γ':List Md}{wi:TI}{f:List PV->Rr (List PV)} (h:DI K EX Γ Γ' wi f):DIc K EX Γ Γ' wi f:=fun B H0 H σ ρ F R Q A d =>
 h B H0 H σ ρ F R Q A (d.imp (fun xs _ d J H' F' s1 f1 A1 it=>d J H' F' s1 f1 A1 fun H2 F2 s2 f2=>it H2 F2 (Frm.of s2 f2)) fun e q=>q)
section
variable {K:W.Frag}{B:Addr->Prop}{EX:PX->Hp->Prop}{H0 H H':Hp}{σ:St}{Γ Γ' Γ1 Γ2 Γ3:List Md}{ρ:List PV}{F F':Nat->List Addr}{R:List Addr}{k:Kd}{x:PV}{v:V}{te:TE}{ta:TA}{f:List PV->Rr PV}{fa:List PV->Rr (List PV)}
theorem Rep.frm {F2:Nat->List Addr}{H2:Hp} (h:Frm H F H2 F2) (A:Ag K B H0 H σ Γ ρ F R) (r:Rep K H (NO B F R) x v):Rep K H2 (fun a=>NO B F2 R a/\H a≠none/\∀i,a ∉ F i) x v:=by
 refine Rep.mono (fun a us s r=>?_) (fun a us r=>?_) r
 ·rcases r with r|⟨o,r⟩
  ·obtain⟨h1,h2⟩:=h a _ r s.2.2;exact⟨.inl h1,⟨s.1,s.2.1,h2⟩,by rw[r];simp,s.2.2⟩
  ·obtain⟨h1,h2⟩:=h a _ r s.2.2;exact⟨.inr ⟨o,h1⟩,⟨s.1,s.2.1,h2⟩,by rw[r];simp,s.2.2⟩
 ·refine⟨(h a _ r.1 fun i z=>?_).1,r.2⟩
  obtain⟨vs,q⟩:=A.live i a z
  exact ZaO vs.2 r.2 (by rw[r.1] at q;exact Option.some.inj q)
noncomputable def Zci (lo:Int) (n:Nat):List PV:=(List.range n).map fun(k:Nat)=>PV.int (lo+(k:Int))
theorem ZfH {lo:Int}{n:Nat}{S:Addr->Prop}:ItP K S (Itr lo n) (Zci lo n) H:=by
 intro i
 constructor
 ·intro x hx
  unfold Zci at hx
  rw[Ztf] at hx
  by_cases h:i<n
  ·rw[Zud h] at hx
   cases hx
   exact⟨h,fun v H' ⟨e1,e2⟩=>by subst e1 e2;exact⟨Zw.refl _,rfl⟩⟩
  ·rw[Zt2 (by simpa using h)] at hx;cases hx
 ·intro hx
  unfold Zci at hx
  have:=Zt3.mp hx
  show n<=i
  simpa using this
noncomputable def okR (j:Int):Bool:=decide (-(2^62)<=j/\j<2^62)
noncomputable def ZgX (xs:List PV):Rr (List PV):=match xs with
 |[.int j]=>if okR j=true then .ok (Zci 0 j.toNat) else .bad
 |_=>.bad
noncomputable def ZgW (xs:List PV):Rr (List PV):=match xs with
 |[.int i,.int j]=>if (okR i&&okR j)=true then .ok (Zci i (j-i).toNat) else .bad
 |_=>.bad
theorem JQ (ha:DAA K EX Γ Γ' ta fa):DI K EX Γ Γ' (Zlk ta) (fun ρ=>(fa ρ).bind ZgX):=fun B H0 H σ ρ F R Q A d=>by
 refine ha B H0 H σ ρ F R _ A (d.bind.imp (fun xs _ d vs H1 F1 s1 f1 p1 A1=>?_) fun e q=>q)
 unfold ZgX at d
 split at d
 ·rename_i j _
  obtain⟨v,rfl,h1⟩:=UL p1
  cases h1
  by_cases h:okR j=true
  ·rw[if_pos h] at d
   have h':=of_decide_eq_true h
   exact⟨j,rfl,h'.1,h'.2,d _ H1 F1 s1 f1 A1 fun H2 F2 _=>ZfH⟩
  ·rw[if_neg h] at d;exact d.elim
 ·exact d.elim
theorem ZfX (ha:DAA K EX Γ Γ' ta fa):DI K EX Γ Γ' (Zlj ta) (fun ρ=>(fa ρ).bind ZgW):=fun B H0 H σ ρ F R Q A d=>by
 refine ha B H0 H σ ρ F R _ A (d.bind.imp (fun xs _ d vs H1 F1 s1 f1 p1 A1=>?_) fun e q=>q)
 unfold ZgW at d
 split at d
 ·rename_i i j _
  obtain⟨v,w,rfl,h1,h2⟩:=Zkx p1
  cases h1;cases h2
  by_cases h:(okR i&&okR j)=true
  ·rw[if_pos h] at d
   rw[Bool.and_eq_true] at h
   have h':=of_decide_eq_true h.1
   have h'':=of_decide_eq_true h.2
   exact⟨i,j,rfl,⟨h'.1,h'.2,h''.1,h''.2⟩,d _ H1 F1 s1 f1 A1 fun H2 F2 _=>ZfH⟩
  ·rw[if_neg h] at d;exact d.elim
 ·exact d.elim
noncomputable def asL (x:PV):Rr (List PV):=match x with
 |.lst xs=>.ok xs
 |_=>.bad
theorem Zjm {a:Addr}{xs:List PV}{S:Addr->Prop} (h:Rep K H S (.lst xs) (.ref a)):ItP K S (Itl K a) xs H:=by
 obtain⟨a',vs,e,hn,hr⟩:=h
 cases e
 intro i
 constructor
 ·intro x hx
  obtain⟨u,e1,e2⟩:=hr.get hx
  refine⟨⟨vs,u,V5 hn,e1⟩,fun v H' ⟨e,y⟩=>?_⟩
  subst e
  have:=y vs (V5 hn)
  rw[e1] at this;cases this
  exact⟨Zw.refl _,e2⟩
 ·intro hx
  exact⟨vs,V5 hn,by rw[hr.length];exact Zt3.mp hx⟩
theorem Jz (he:DE K EX Γ Γ' .Z te f):DI K EX Γ Γ' (ZfL K te) (fun ρ=>(f ρ).bind asL):=fun B H0 H σ ρ F R Q A d=>by
 refine he B H0 H σ ρ F R _ A (d.bind.imp (fun x _ d v H1 s1 r1=>?_) fun e q=>q)
 obtain⟨F1,f1,p1,A1⟩:=r1
 cases x with
 |lst xs =>
  obtain⟨a,vs,rfl,hn,hr⟩:=id p1
  exact⟨a,rfl,⟨vs,V5 hn⟩,d _ H1 F1 s1 f1 A1 fun H2 F2 h=>Zjm (p1.frm h A1)⟩
 |_=>exact d.elim
theorem ZbH:∀{ns:List Int},PV.flats (ns.map PV.int)=true
 |[]=>rfl
 |n::ns=>by simp only[Ztg,PV.flats,PV.flat,ZbH,Bool.and_self]
def DO (K:W.Frag) (EX:PX->Hp->Prop) (Γ Γ':List Md) (t:TO) (f:List PV->Rr (Option Int)):Prop:=
 ∀(B:Addr->Prop) (H0 H:Hp) (σ:St) (ρ:List PV) (F:Nat->List Addr) (R:List Addr) (Q:Option Int->Hp->Prop),Ag K B H0 H σ Γ ρ F R ->
  Dn (f ρ) (fun o=>∀H' F',Zw H H'->(∀i,∀a∈F' i,a∈F i)->Ag K B H0 H' σ Γ' ρ F' R->Q o H') (fun e=>∀H',Zw H0 H'->EX e H')->t σ H Q
theorem Zc9:DO K EX Γ Γ ZeF (fun _=>.ok none):=fun B H0 H σ ρ F R Q A d=>d H F (Zw.refl H) (fun _ _ h=>h) A
noncomputable def asI (x:PV):Rr Int:=match x with
 |.int i=>.ok i
 |_=>.bad
theorem Dn.asI {x:PV}{ok:Int->Prop}{ex:PX->Prop} (d:Dn (asI x) ok ex):∃b,x=.int b/\ok b:=by
 cases x with
 |int b=>exact⟨b,rfl,d⟩
 |_=>exact d.elim
theorem Zc8 (he:DE K EX Γ Γ' .A te f):DO K EX Γ Γ' (Zki te) (fun ρ=>(f ρ).bind fun x=>(asI x).bind fun i=>.ok (some i)):=fun B H0 H σ ρ F R Q A d=>by
 refine he B H0 H σ ρ F R _ A (d.bind.imp (fun x _ d v H1 s1 r1=>?_) fun e q=>q)
 obtain⟨i,rfl,d⟩:=d.bind.asI
 obtain⟨F1,f1,p1,A1⟩:=r1
 cases p1
 exact⟨i,rfl,d H1 F1 s1 f1 A1⟩
noncomputable def ZjE {α:Type} (xs:List α) (lo hi:Option Int):List α:=(xs.drop (HT.sIx xs.length 0 lo)).take (HT.sIx xs.length xs.length hi-HT.sIx xs.length 0 lo)
theorem Reps.cut {S:Addr->Prop}{xs:List PV}{vs:List V} (h:Reps K H S xs vs) (lo hi:Option Int):Reps K H S (ZjE xs lo hi) (ZjX vs lo hi):=by
 unfold ZjE ZjX
 rw[h.length]
 exact(h.drop _).take _
noncomputable def newF (xs:List PV):Rr PV:=if (PV.flats xs&&decide (xs.length<=1000000))=true then .ok (.lst xs) else .bad
theorem Dn.newF {xs:List PV}{ok:PV->Prop}{ex:PX->Prop} (d:Dn (newF xs) ok ex):PV.flats xs=true/\xs.length<=1000000/\ok (.lst xs):=by
 unfold L2.newF at d
 by_cases h:(PV.flats xs&&decide (xs.length<=1000000))=true
 ·rw[if_pos h] at d
  rw[Bool.and_eq_true] at h
  exact⟨h.1,of_decide_eq_true h.2,d⟩
 ·rw[if_neg h] at d;exact d.elim
theorem Zgd {tl th:TO}{fl fh:List PV->Rr (Option Int)} (he:DE K EX Γ Γ1 .A te f) (hl:DO K EX Γ1 Γ2 tl fl) (hh:DO K EX Γ2 Γ3 th fh) :
  DE K EX Γ Γ3 .F (tSl (Zmm K) te tl th) (fun ρ=>(f ρ).bind fun x=>(fl ρ).bind fun lo=>(fh ρ).bind fun hi=>(asL x).bind fun xs=>newF (ZjE xs lo hi)):=fun B H0 H σ ρ F R Q A d=>by
 refine he B H0 H σ ρ F R _ A (d.bind.imp (fun x _ d v H1 s1 r1=>?_) fun e q=>q)
 obtain⟨F1,f1,p1,A1⟩:=r1
 refine hl B H0 H1 σ ρ F1 R _ A1 (d.bind.imp (fun lo _ d H2 F2 s2 f2 A2=>?_) fun e q=>q)
 refine hh B H0 H2 σ ρ F2 R _ A2 (d.bind.imp (fun hi _ d H3 F3 s3 f3 A3=>?_) fun e q=>q)
 cases x with
 |lst xs =>
  obtain⟨h1,h2,d⟩:=Dn.newF d
  obtain⟨a,vs,rfl,hn,hr⟩:=(p1.same s2).same s3
  refine⟨a,vs,rfl,V5 (S:=fun _=>True) hn,fun p hp=>?_⟩
  exact d _ _ (((s1.trans s2).trans s3).trans (Zw.new hp)) (Res.newP ((s1.trans s2).trans s3) (fun i a h=>f1 i a (f2 i a (f3 i a h))) (hr.cut lo hi) h1 A3 hp)
 |_=>exact d.elim
noncomputable def Zcp (xs:List PV):Rr PV:=match xs with
 |[.lst ys]=>newF ys
 |[.tup ys]=>newF ys
 |_=>.bad
theorem V0 (ha:DAA K EX Γ Γ' ta fa):DE K EX Γ Γ' .F (tCB (fun xs H Q=>∃p ys,xs=[.ref p]/\(SqL K H p ys\/SqT K H p ys)/\∀l,H l=none->Q (.ref l) (upd H l (.lst ys))) ta) (fun ρ=>(fa ρ).bind Zcp):=fun B H0 H σ ρ F R Q A d=>by
 refine ha B H0 H σ ρ F R _ A (d.bind.imp (fun xs _ d vs H1 F1 s1 f1 p1 A1=>?_) fun e q=>q)
 unfold Zcp at d
 split at d
 ·obtain⟨h1,h2,d⟩:=Dn.newF d
  obtain⟨v,rfl,a,ws,rfl,hn,hr⟩:=UL p1
  exact⟨a,ws,rfl,.inl (V5 (S:=fun _=>True) hn),fun l hl=>d _ _ (s1.trans (Zw.new hl)) (Res.newP s1 f1 hr h1 A1 hl)⟩
 ·obtain⟨h1,h2,d⟩:=Dn.newF d
  obtain⟨v,rfl,a,ws,rfl,hn,hr⟩:=UL p1
  exact⟨a,ws,rfl,.inr hn.sqT,fun l hl=>d _ _ (s1.trans (Zw.new hl)) (Res.newP s1 f1 hr h1 A1 hl)⟩
 ·exact d.elim
noncomputable def V2:PV->String
 |.non => "NoneType"
 |.bl _ => "bool"
 |.int _ => "int"
 |.str _ => "str"
 |.lst _ => "list"
 |.tup _ => "tuple"
 |.exc _ => "?"
 |.exa _ _ => "?"
 |.box _ (.dk _) _ => "dict"
 |.box _ (.dt _) _ => "dict"
 |.box _ (.ob _ _) _ => "?"
noncomputable def PV.isX:PV->Bool
 |.exc _=>true
 |.exa _ _=>true
 |.box _ _ _=>true
 |_=>false
noncomputable def QN (t n:String):Bool:=t==n || (t == "bool" && n == "int")
noncomputable def Zmf (n:String):Bool:=n == "int" || n == "bool" || n == "str" || n == "list" || n == "tuple"
theorem ZkY (K:W.Frag) {n:String} (h:Zmf n=true) (x:PV) (hx:x.isX=false):PySem.W.kitOne K (.type (V2 x)) (.type n)=some (QN (V2 x) n):=by
 simp only[Zmf,Bool.or_eq_true,beq_iff_eq] at h
 rcases h with (((rfl|rfl)|rfl)|rfl)|rfl<;>cases x<;>first|rfl|cases hx
def ZmO (K:W.Frag) (n:String):List V->Hp->VK->Prop:=fun xs H Q=>∃x p,xs=[x,.ty n]/\Rep K H (fun _=>True) p x/\p.isX=false/\Q (.bl (QN (V2 p) n)) H
theorem ZV {X:Cx}{n:String} (hn:Zmf n=true) (e:X.K=K:=by rfl):JJ X (.builtin "isinstance") (ZmO K n):=by
 subst e
 intro pins s σ H xs us Q I r h
 obtain⟨x,p,rfl,hp,hx,q⟩:=h
 obtain⟨u,w',rfl,rx,rn⟩:=Zkd r
 cases rn
 have e:=ZkY X.K hn p hx
 have fin:∀tk,EP X pins σ Q (.bool (QN (V2 p) n)) { s with toks:=tk }:=fun tk=>⟨.bl _,H,I.tok _,rfl,q⟩
 cases p with
 |non=>cases hp;cases rx;exact PySem.W.kia_one PySem.W.kitx_none I.kIn True.intro e (fun z=>nomatch z) fin
 |bl y=>cases hp;cases rx;exact PySem.W.kia_one PySem.W.kitx_bool I.kIn True.intro e (fun z=>nomatch z) fin
 |int i=>cases hp;obtain⟨t,rfl⟩:=rx;exact PySem.W.kia_one PySem.W.kitx_int I.kIn True.intro e (fun z=>nomatch z) fin
 |str y=>cases hp;obtain⟨t,rfl⟩:=rx;exact PySem.W.kia_one PySem.W.kitx_str I.kIn True.intro e (fun z=>nomatch z) fin
 |exc y=>cases hx
 |exa y i=>cases hx
 |box p s ps=>cases hx
 |lst ps =>
  obtain⟨a,vs,rfl,hn',hr⟩:=hp
  cases rx
  obtain⟨its,_,pl,_⟩:=I.list (V5 (S:=fun _=>True) hn')
  obtain⟨o,h1,h2,_⟩:=pl.isList
  exact PySem.W.kia_one PySem.W.kitx_list I.kIn ⟨o,h1,h2⟩ e (fun z=>nomatch z) fin
 |tup ps =>
  obtain⟨a,vs,rfl,hn',hr⟩:=hp
  cases rx
  obtain⟨its,_,⟨o,h1,h2,_⟩,_⟩:=I.tuple hn'.sqT
  exact PySem.W.kia_one PySem.W.kitx_tuple I.kIn ⟨o,h1,h2⟩ e (fun z=>nomatch z) fin
noncomputable def ZkK (n:String) (x:PV):Rr PV:=if x.isX=true then .bad else .ok (.bl (QN (V2 x) n))
theorem Vj {n:String} (he:DE K EX Γ Γ' .A te f):DE K EX Γ Γ' .P (tCB (ZmO K n) (VX te (VX (tC (.ty n)) Zbe))) (fun ρ=>(f ρ).bind (ZkK n)):=fun B H0 H σ ρ F R Q A d=>by
 refine he B H0 H σ ρ F R _ A (d.bind.imp (fun x _ d v H1 s1 r1=>?_) fun e q=>q)
 obtain⟨F1,f1,p1,A1⟩:=r1
 unfold ZkK at d
 cases hx:x.isX with
 |true=>rw[hx] at d;exact d.elim
 |false=>rw[hx] at d;exact⟨v,x,rfl,p1,hx,d _ H1 s1 ⟨F1,f1,rfl,rfl,A1⟩⟩
def Len (fa:List PV->Rr (List PV)) (n:Nat):Prop:=∀ρ xs,fa ρ=.ok xs->xs.length=n
theorem Zv:Len (fun _=>.ok []) 0:=fun ρ xs h=>by cases h;rfl
theorem Zi {f:List PV->Rr PV}{fa:List PV->Rr (List PV)}{n:Nat} (h:Len fa n):Len (fun ρ=>(f ρ).bind fun x=>(fa ρ).bind fun xs=>.ok (x::xs)) (n+1):=fun ρ xs e=>by
 dsimp only at e
 cases h1:f ρ with
 |ok x =>
  rw[h1] at e
  cases h2:fa ρ with
  |ok ys=>simp only[Rr.bind_ok,h2] at e;cases e;simp[h ρ ys h2]
  |exc q=>simp only[Rr.bind_ok,h2,Rr.bind_exc] at e;cases e
  |bad=>simp only[Rr.bind_ok,h2,Rr.bind_bad] at e;cases e
 |exc q=>rw[h1] at e;cases e
 |bad=>rw[h1] at e;cases e
def Zg8 (K:W.Frag) (B:Addr->Prop) (H:Hp) (k:Kd) (x:PV) (v:V) (H':Hp):Prop:=match k with
 |.P=>x.flat=true/\Rep K H' (fun _=>True) x v
 |.F=>∃G,ZW K H' x v G/\∀a∈G,H a=none
 |.N=>∃y a s xs G1 G2,x=.tup [y,.box (some a) s xs]/\ZW K H' y v G1/\ZW K H' (.box (some a) s xs) (.ref a) G2/\(∀b∈G1,b ∉ G2)/\(∀b∈G1,H b=none)/\∀b∈G2,H b=none
 |_=>Rep K H' (fun a=>B a\/H a=none) x v
noncomputable def spF (K:PySem.W.Frag) (n:Nat) (k:Kd) (W:PX->XK->Hp->Prop) (m:List PV->Rr PV):Sp:=fun vs H Q E=>∃B xs,Reps K H B xs vs/\xs.length=n /\
 Dn (m xs) (fun x=>∀v H',Zw H H'->Zg8 K B H k x v H'->Q v H') (fun e=>∀H',Zw H H'->W e E H')
def W0:PX->XK->Hp->Prop:=fun _ _ _=>False
def X0:PX->Hp->Prop:=fun _ _=>False
section
variable {n:Nat}{W:PX->XK->Hp->Prop}{m:List PV->Rr PV}{E:XK}
theorem ZdN {t:TE} (ht:∀σ H Q,(ta σ H fun vs H1=>spF K n .P W m vs H1 Q E)->t σ H Q) (hW:∀e H',EX e H'->W e E H') (hn:Len fa n) (ha:DAA K EX Γ Γ' ta fa):DE K EX Γ Γ' .P t (fun ρ=>(fa ρ).bind m):=fun B H0 H σ ρ F R Q A d=>by
 refine ht _ _ _ (ha B H0 H σ ρ F R _ A (d.bind.imp (fun xs hx d vs H1 F1 s1 f1 p1 A1=>?_) fun e q=>q))
 exact⟨fun _=>True,xs,p1,hn ρ xs hx,d.imp (fun x _ d v H2 s2 r=>d v H2 (s1.trans s2) ⟨F1,f1,r.1,r.2,A1.grow s2⟩) fun e q H2 s2=>hW e H2 (q H2 (A1.same.trans s2))⟩
theorem ZdO {t:TE} (ht:∀σ H Q,(ta σ H fun vs H1=>spF K n .F W m vs H1 Q E)->t σ H Q) (hW:∀e H',EX e H'->W e E H') (hn:Len fa n) (ha:DAA K EX Γ Γ' ta fa):DE K EX Γ Γ' .F t (fun ρ=>(fa ρ).bind m):=fun B H0 H σ ρ F R Q A d=>by
 refine ht _ _ _ (ha B H0 H σ ρ F R _ A (d.bind.imp (fun xs hx d vs H1 F1 s1 f1 p1 A1=>?_) fun e q=>q))
 refine⟨fun _=>True,xs,p1,hn ρ xs hx,d.imp (fun x _ d v H2 s2 r=>?_) fun e q H2 s2=>hW e H2 (q H2 (A1.same.trans s2))⟩
 obtain⟨G,r1,r2⟩:=r
 exact d v H2 (s1.trans s2) ⟨F1,f1,G,r1,fun a ha=>⟨(A1.fresh (r2 a ha)).1,.inl (s1.free (r2 a ha))⟩,A1.more s2 r2 r1.alive⟩
end
end
noncomputable def ZdA {α β:Type} (f:α->Rr β):List α->Rr (List β)
 |[]=>.ok []
 |x::xs=>(f x).bind fun y=>(ZdA f xs).bind fun ys=>.ok (y::ys)
noncomputable def lenM (xs:List PV):Rr Unit:=if xs.length<=1000000 then .ok () else .bad
theorem Dn.lenM {xs:List PV}{ok:Unit->Prop}{ex:PX->Prop} (d:Dn (lenM xs) ok ex):xs.length<=1000000/\ok ():=by
 unfold L2.lenM at d
 by_cases h:xs.length<=1000000
 ·rw[if_pos h] at d;exact⟨h,d⟩
 ·rw[if_neg h] at d;exact d.elim
theorem Rr.assoc {α β γ:Type}{r:Rr α}{f:α->Rr β}{g:β->Rr γ}:(r.bind f).bind g=r.bind fun a=>(f a).bind g:=by cases r<;>rfl
section
variable {K:W.Frag}{B:Addr->Prop}{H0 H:Hp}{σ:St}{Γ:List Md}{ρ:List PV}{F:Nat->List Addr}{R:List Addr}{x:PV}{v:V}
theorem Ag.outF (A:Ag K B H0 H σ Γ ρ F R) {i:Nat} (h:Γ.length<=i):F i=[]:=by
 have:=A.slot i
 rw[ZsO,Zt2 h] at this
 exact this
theorem Ag.push (A:Ag K B H0 H σ Γ ρ F R) (h:Rep K H (NO B F R) x v):Ag K B H0 H (σ++[some v]) (Γ++[.S]) (ρ++[x]) F R:=by
 refine⟨A.same,A.own,A.young,A.youngR,A.live,A.liveR,A.disj,A.disjR,by simp[A.lenS],by simp[A.lenR],fun i=>?_⟩
 by_cases h1:i<Γ.length
 ·have:=A.slot i
  rw[ZsO,ZsO,Ztb h1,Ztb (by rw[A.lenR];exact h1),Ztb (by rw[A.lenS];exact h1),<- ZsO,<- ZsO]
  exact this
 ·by_cases h2:i=Γ.length
  ·subst h2
   rw[ZsO,ZsO,ZsY (ZsU _),ZsY (by rw[A.lenR];exact ZsU _),ZsY (by rw[A.lenS];exact ZsU _),A.lenR,A.lenS]
   simp only[Zu3,List.getElem?_cons_zero,Zu8]
   exact⟨A.outF (ZsU _),v,rfl,h⟩
  ·rw[ZsO,Zt2 (by simp;omega)]
   exact A.outF (by omega)
end
inductive RS where
 |next (ρ:List PV)|ret (x:PV)|brk (ρ:List PV)|cont (ρ:List PV)|exc (e:PX)|bad
noncomputable def Rr.thenS {α:Type}:Rr α->(α->RS)->RS
 |.ok a,f=>f a
 |.exc e,_=>.exc e
 |.bad,_=>.bad
noncomputable def RS.seq:RS->(List PV->RS)->RS
 |.next ρ,f=>f ρ
 |r,_=>r
@[simp] theorem Rr.thenS_ok {α:Type}{a:α}{f:α->RS}:(Rr.ok a).thenS f=f a:=rfl
@[simp] theorem RS.seq_next {ρ:List PV}{f:List PV->RS}:(RS.next ρ).seq f=f ρ:=rfl
@[simp] theorem RS.seq_ret {x:PV}{f:List PV->RS}:(RS.ret x).seq f=.ret x:=rfl
structure Tys where
 n:List Md
 b:List Md
 c:List Md
 r:Kd
def DnS (K:W.Frag) (B:Addr->Prop) (EX:PX->Hp->Prop) (Y:Tys) (H0 H:Hp) (F:Nat->List Addr) (D:ZgA) (r:RS):Prop:=match r with
 |.next ρ=>∀σ' H' F',Frm H F H' F'->Ag K B H0 H' σ' Y.n ρ F' []->D.nx σ' H'
 |.brk ρ=>∀σ' H' F',Frm H F H' F'->Ag K B H0 H' σ' Y.b ρ F' []->D.bk σ' H'
 |.cont ρ=>∀σ' H' F',Frm H F H' F'->Ag K B H0 H' σ' Y.c ρ F' []->D.ct σ' H'
 |.ret x=>∀v H',Zw H0 H'->Zg8 K B H0 Y.r x v H'->D.rt v H'
 |.exc e=>∀H',Zw H0 H'->EX e H'
 |.bad=>False
def DS (K:W.Frag) (EX:PX->Hp->Prop) (Γ:List Md) (Y:Tys) (t:TS) (g:List PV->RS):Prop:=
 ∀(B:Addr->Prop) (H0 H:Hp) (σ:St) (ρ:List PV) (F:Nat->List Addr) (D:ZgA),Ag K B H0 H σ Γ ρ F []->DnS K B EX Y H0 H F D (g ρ)->t D σ H
section
variable {K:W.Frag}{B:Addr->Prop}{EX:PX->Hp->Prop}{H0 H H':Hp}{σ:St}{Γ Γ' Γ1 Γ2 Γ3:List Md}{ρ:List PV}{F F':Nat->List Addr}{R:List Addr}{k:Kd}{x:PV}{v:V}{te:TE}{f fc:List PV->Rr PV}
 {t u:TS}{g g':List PV->RS}{Y:Tys}{D:ZgA}
theorem DnS.shift {H1:Hp}{F1:Nat->List Addr}{r:RS} (fr:Frm H F H1 F1) (h:DnS K B EX Y H0 H F D r):DnS K B EX Y H0 H1 F1 D r:=by
 cases r with
 |next ρ=>exact fun σ' H' F' fr' A=>h σ' H' F' (fr.trans fr') A
 |brk ρ=>exact fun σ' H' F' fr' A=>h σ' H' F' (fr.trans fr') A
 |cont ρ=>exact fun σ' H' F' fr' A=>h σ' H' F' (fr.trans fr') A
 |ret x=>exact h
 |exc e=>exact h
 |bad=>exact h
theorem DnS.thenS {α:Type}{r:Rr α}{f:α->RS} (h:DnS K B EX Y H0 H F D (r.thenS f)):Dn r (fun a=>DnS K B EX Y H0 H F D (f a)) (fun e=>∀H',Zw H0 H'->EX e H'):=by
 cases r with
 |ok a=>exact h
 |exc e=>exact h
 |bad=>exact h
theorem ZH:DS K EX Γ ⟨Γ,Γ1,Γ2,k⟩ Zi8 (fun ρ=>.next ρ):=fun B H0 H σ ρ F D A d=>d σ H F Frm.refl A
theorem Zm {Γm:List Md} (h1:DS K EX Γ ⟨Γm,Y.b,Y.c,Y.r⟩ t g) (h2:DS K EX Γm Y u g'):DS K EX Γ Y (ZmL t u) (fun ρ=>(g ρ).seq g'):=fun B H0 H σ ρ F D A d=>by
 refine h1 B H0 H σ ρ F _ A ?_
 dsimp only at d
 cases e:g ρ with
 |next ρ1 =>
  rw[e] at d
  exact fun σ' H' F' fr A'=>h2 B H0 H' σ' ρ1 F' D A' (DnS.shift fr d)
 |brk ρ1=>rw[e] at d;exact d
 |cont ρ1=>rw[e] at d;exact d
 |ret x=>rw[e] at d;exact d
 |exc q=>rw[e] at d;exact d
 |bad=>rw[e] at d;exact d
noncomputable def mle (m m':Md):Bool:=m==m' || m'==.U || (m'==.S&&m != .U) || (m'==.O&&m==.P)
noncomputable def Zii:List Md->List Md->Bool
 |[],[]=>true
 |m::ms,m'::ms'=>mle m m'&&Zii ms ms'
 |_,_=>false
theorem Zd8:∀{Γ Γ':List Md},Zii Γ Γ'=true->Γ.length=Γ'.length/\∀i,mle (Γ.getD i .U) (Γ'.getD i .U)=true
 |[],[],_=>⟨rfl,fun i=>by simp[mle]⟩
 |m::ms,m'::ms',h=>by
  simp only[Zii,Bool.and_eq_true] at h
  obtain⟨h1,h2⟩:=Zd8 h.2
  refine⟨by simp[h1],fun i=>?_⟩
  cases i with
  |zero=>simpa using h.1
  |succ i=>simpa using h2 i
 |[],_::_,h=>by cases h
 |_::_,[],h=>by cases h
theorem Ag.weak (A:Ag K B H0 H σ Γ ρ F R) (h:Zii Γ Γ'=true):∃F',(∀i,∀a∈F' i,a∈F i)/\Ag K B H0 H σ Γ' ρ F' R:=by
 obtain⟨hl,hm⟩:=Zd8 h
 let F':Nat->List Addr:=fun i=>if Γ.getD i .U=Γ'.getD i .U then F i else []
 have hF:∀i,∀a∈F' i,a∈F i:=fun i a ha=>by
  by_cases q:Γ.getD i .U=Γ'.getD i .U
  ·simp only[F',if_pos q] at ha;exact ha
  ·simp only[F',if_neg q] at ha;simp at ha
 have up:∀{a},NO B F R a->NO B F' R a:=fun {a} s=>⟨s.1,s.2.1,fun j z=>s.2.2 j (hF j a z)⟩
 refine⟨F',hF,A.same,A.own,fun i a ha=>A.young i a (hF i a ha),A.youngR,fun i a ha=>A.live i a (hF i a ha),A.liveR,fun i j hij a ha z=>A.disj i j hij a (hF i a ha) (hF j a z),fun i a ha=>A.disjR i a (hF i a ha),by rw[A.lenS,hl],by rw[A.lenR,hl],fun i=>?_⟩
 have sl:=A.slot i
 have hmi:=hm i
 by_cases q:Γ.getD i .U=Γ'.getD i .U
 ·simp only[F',if_pos q]
  rw[<- q]
  exact sl.mono (fun a vs s r=>⟨r,up s⟩) (fun a vs r=>r) fun a ha vs r=>r
 ·simp only[F',if_neg q]
  simp only[mle,Bool.or_eq_true,beq_iff_eq,Bool.and_eq_true,bne_iff_ne] at hmi
  rcases hmi with ((z|z)|z)|z
  ·exact absurd z q
  ·rw[z];exact rfl
  rotate_left
  ·rw[z.1]
   rw[z.2] at sl
   obtain⟨e,v,h1,h2,h3⟩:=sl
   exact⟨v,h1,h3.tree h2⟩
  ·rw[z.1]
   have own:∀a∈F i,NO B F' R a:=fun a ha=>⟨A.own a (A.young i a ha),A.disjR i a ha,fun j w=>by
    by_cases hj:j=i
    ·subst hj;simp only[F',if_neg q] at w;simp at w
    ·exact A.disj j i hj a (hF j a w) ha⟩
   cases hmm:Γ.getD i .U with
   |U=>exact absurd hmm z.2
   |P=>rw[hmm] at sl;obtain⟨e,v,h1,h2,h3⟩:=sl;exact⟨rfl,v,h1,h3.flatS h2⟩
   |S=>rw[hmm] at sl;obtain⟨e,v,h1,h2⟩:=sl;exact⟨rfl,v,h1,Rep.mono (fun a vs s r=>⟨r,up s⟩) (fun a vs r=>r) h2⟩
   |T =>
    rw[hmm] at sl
    obtain⟨a,vs,xs,h1,h2,h3,h4,h5⟩:=sl
    refine⟨rfl,_,h1, ?_⟩
    rw[h2]
    exact⟨a,vs,rfl,.inl ⟨.inl h3,own a (by rw[h5];simp)⟩,Reps.mono (fun a vs s r=>⟨r,up s⟩) (fun a vs r=>r) h4⟩
   |O=>rw[hmm] at sl;obtain⟨v,h1,h2⟩:=sl;exact⟨rfl,v,h1,h2.rep own⟩
theorem DS.out {Y':Tys} (h:DS K EX Γ Y t g) (hn:Zii Y.n Y'.n=true) (hb:Zii Y.b Y'.b=true) (hc:Zii Y.c Y'.c=true) (hr:Y.r=Y'.r):DS K EX Γ Y' t g:=fun B H0 H σ ρ F D A d=>by
 refine h B H0 H σ ρ F D A ?_
 cases e:g ρ with
 |next ρ1=>rw[e] at d;exact fun σ' H' F' fr A'=>let ⟨F2,f2,A2⟩:=A'.weak hn;d σ' H' F2 (fr.trans (Frm.of (Zw.refl _) f2)) A2
 |brk ρ1=>rw[e] at d;exact fun σ' H' F' fr A'=>let ⟨F2,f2,A2⟩:=A'.weak hb;d σ' H' F2 (fr.trans (Frm.of (Zw.refl _) f2)) A2
 |cont ρ1=>rw[e] at d;exact fun σ' H' F' fr A'=>let ⟨F2,f2,A2⟩:=A'.weak hc;d σ' H' F2 (fr.trans (Frm.of (Zw.refl _) f2)) A2
 |ret x=>rw[e] at d;exact fun v H' s r=>d v H' s (hr▸r)
 |exc q=>rw[e] at d;exact d
 |bad=>rw[e] at d;exact d
theorem Zc5 {H1:Hp}{F1:Nat->List Addr}{i:Nat}{G:List Addr} (s1:Zw H H1) (f1:∀i,∀a∈F1 i,a∈F i) (o:∀a∈G,H a=none\/∃i,a∈F i):Frm H F H1 (JS F1 i G):=fun a u h n=>by
 refine⟨s1 a u h,fun j z=>?_⟩
 by_cases q:j=i
 ·subst q
  rw[Zp] at z
  rcases o a z with w|⟨l,w⟩
  ·rw[h] at w;cases w
  ·exact n l w
 ·rw[Zs q] at z;exact n j (f1 j a z)
theorem ZO {i:Nat} (he:DE K EX Γ Γ' .P te f) (hi:i<Γ'.length):DS K EX Γ ⟨Γ'.set i .P,Γ1,Γ2,k⟩ (Zi9 te (Zad i)) (fun ρ=>(f ρ).thenS fun x=>.next (ρ.set i x)):=fun B H0 H σ ρ F D A d=>by
 refine he B H0 H σ ρ F [] _ A (d.thenS.imp (fun x _ d v H1 s1 r1=>?_) fun e q=>q)
 obtain⟨F1,f1,h1,h2,A1⟩:=r1
 exact d _ H1 _ (Zc5 (G:=[]) s1 f1 (by simp)) (Ag.put (G:=[]) (R:=[]) A1 hi (by simp) ⟨rfl,v,rfl,h1,h2⟩)
theorem Je {i:Nat} (he:DE K EX Γ Γ' .F te f) (hi:i<Γ'.length):DS K EX Γ ⟨Γ'.set i .O,Γ1,Γ2,k⟩ (Zi9 te (Zad i)) (fun ρ=>(f ρ).thenS fun x=>.next (ρ.set i x)):=fun B H0 H σ ρ F D A d=>by
 refine he B H0 H σ ρ F [] _ A (d.thenS.imp (fun x _ d v H1 s1 r1=>?_) fun e q=>q)
 obtain⟨F1,f1,G,h1,h2,A1⟩:=r1
 exact d _ H1 _ (Zc5 s1 f1 fun a ha=>(h2 a ha).2) (Ag.put (R:=[]) A1 hi (by simp) ⟨v,rfl,h1⟩)
theorem Zjz {i:Nat} (he:DE K EX Γ Γ' .T te f) (hi:i<Γ'.length):DS K EX Γ ⟨Γ'.set i .T,Γ1,Γ2,k⟩ (Zi9 te (Zad i)) (fun ρ=>(f ρ).thenS fun x=>.next (ρ.set i x)):=fun B H0 H σ ρ F D A d=>by
 refine he B H0 H σ ρ F [] _ A (d.thenS.imp (fun x _ d v H1 s1 r1=>?_) fun e q=>q)
 obtain⟨F1,f1,a,vs,xs,rfl,rfl,h1,h2,h3,h4,A1⟩:=r1
 refine d _ H1 _ (Zc5 (G:=[a]) s1 f1 fun b hb=>by rw[Zti.mp hb];exact h4) (Ag.put (G:=[a]) (R:=[]) A1 hi (by simp) ⟨a,vs,xs,rfl,rfl,h1, ?_,rfl⟩)
 refine Reps.mono (fun b us s r=>⟨r,s.1,by simp,fun j z=>?_⟩) (fun b us r=>r) h2
 by_cases q:j=i
 ·subst q;rw[Zp] at z;exact s.2.1 z
 ·rw[Zs q] at z;exact s.2.2 j z
theorem ZaT (he:DE K EX Γ Γ' .A te f):DS K EX Γ ⟨Γ',Γ1,Γ2,k⟩ (Zbl te) (fun ρ=>(f ρ).thenS fun _=>.next ρ):=fun B H0 H σ ρ F D A d=>by
 refine he B H0 H σ ρ F [] _ A (d.thenS.imp (fun x _ d v H1 s1 r1=>?_) fun e q=>q)
 obtain⟨F1,f1,h1,A1⟩:=r1
 exact d σ H1 F1 (Frm.of s1 f1) A1
theorem Z8 (he:DE K EX Γ Γ' .P te f):DS K EX Γ ⟨Γ3,Γ1,Γ2,.P⟩ (Zkh te) (fun ρ=>(f ρ).thenS fun x=>.ret x):=fun B H0 H σ ρ F D A d=>by
 refine he B H0 H σ ρ F [] _ A (d.thenS.imp (fun x _ d v H1 s1 r1=>?_) fun e q=>q)
 obtain⟨F1,f1,h1,h2,A1⟩:=r1
 exact d v H1 A1.same ⟨h1,h2⟩
theorem Jm (he:DE K EX Γ Γ' .F te f):DS K EX Γ ⟨Γ3,Γ1,Γ2,.F⟩ (Zkh te) (fun ρ=>(f ρ).thenS fun x=>.ret x):=fun B H0 H σ ρ F D A d=>by
 refine he B H0 H σ ρ F [] _ A (d.thenS.imp (fun x _ d v H1 s1 r1=>?_) fun e q=>q)
 obtain⟨F1,f1,G,h1,h2,A1⟩:=r1
 exact d v H1 A1.same ⟨G,h1,fun a ha=>A1.youngR a (by simpa using ha)⟩
theorem JG {c:TT}{fc:List PV->Rr Bool} (hc:DT K EX Γ Γ' c fc) (h1:DS K EX Γ' Y t g) (h2:DS K EX Γ' Y u g'):DS K EX Γ Y (ZlQ c t u) (fun ρ=>(fc ρ).thenS fun b=>if b=true then g ρ else g' ρ):=fun B H0 H σ ρ F D A d=>by
 refine hc B H0 H σ ρ F [] _ A (d.thenS.imp (fun b _ d H1 F1 s1 f1 A1=>?_) fun e q=>q)
 cases b with
 |true=>exact h1 B H0 H1 σ ρ F1 D A1 (DnS.shift (Frm.of s1 f1) d)
 |false=>exact h2 B H0 H1 σ ρ F1 D A1 (DnS.shift (Frm.of s1 f1) d)
variable {ti:TE}{fi:List PV->Rr PV}
 {t u:TS}{g g':List PV->RS}{Y:Tys}{D:ZgA}
theorem ZgK {i:Nat}{m:Md} (h:Γ[i]?=some m):Γ.set i m=Γ:=by
 apply Zuy
 intro j
 by_cases q:i=j
 ·subst q;rw[Zto (ZsR.mp h).1,h]
 ·rw[Ztj q]
theorem Ag.chgB {i:Nat}{m:Md}{a:Addr}{o':HO} (ho:Lvo o') {x':PV}{G G':List Addr} (A:Ag K B H0 H σ Γ ρ F (G++R)) (hm:Γ[i]?=some m) (ha:a∈F i) (hG:∀b∈G',b∈F i\/b∈G) (hGR:∀b∈G,b ∉ R)
  (hs:Ud K (upd H a o') (NO B (JS F i G') R) m x' σ[i]? G'):Ag K B H0 (upd H a o') σ Γ (ρ.set i x') (JS F i G') R:=by
 obtain⟨us,hH⟩:=A.live i a ha
 have hi:=A.lt hm
 have liveU:∀b,(∃us:LvO,H b=some us.1)->∃us:LvO,upd H a o' b=some us.1:=fun b ⟨us,q⟩=>by
  by_cases e:b=a
  ·exact⟨⟨o',ho⟩,by rw[e,Z2]⟩
  ·exact⟨us,by rw[Zr e];exact q⟩
 refine⟨A.same.upd (A.young i a ha),A.own,fun j b hb=>?_,fun b hb=>A.youngR b (ZsT _ hb),fun j b hb=>liveU b ?_,fun b hb=>liveU b (A.liveR b (ZsT _ hb)),fun j l hjl b hb z=>?_,fun j b hb z=>?_,A.lenS,by simp[A.lenR],fun j=>?_⟩
 ·by_cases q:j=i
  ·subst q;rw[Zp] at hb
   rcases hG b hb with z|z
   ·exact A.young j b z
   ·exact A.youngR b (ZsW _ z)
  ·rw[Zs q] at hb;exact A.young j b hb
 ·by_cases q:j=i
  ·subst q;rw[Zp] at hb
   rcases hG b hb with z|z
   ·exact A.live j b z
   ·exact A.liveR b (ZsW _ z)
  ·rw[Zs q] at hb;exact A.live j b hb
 ·by_cases q:j=i
  ·subst q
   rw[Zp] at hb
   rw[Zs (Ne.symm hjl)] at z
   rcases hG b hb with w|w
   ·exact A.disj j l hjl b w z
   ·exact A.disjR l b z (ZsW _ w)
  ·rw[Zs q] at hb
   by_cases q':l=i
   ·subst q'
    rw[Zp] at z
    rcases hG b z with w|w
    ·exact A.disj j l hjl b hb w
    ·exact A.disjR j b hb (ZsW _ w)
   ·rw[Zs q'] at z;exact A.disj j l hjl b hb z
 ·by_cases q:j=i
  ·subst q;rw[Zp] at hb
   rcases hG b hb with w|w
   ·exact A.disjR j b w (ZsT _ z)
   ·exact hGR b w z
  ·rw[Zs q] at hb;exact A.disjR j b hb (ZsT _ z)
 ·by_cases q:j=i
  ·subst q
   rw[Zp,ZsO,ZsO,hm,Zto (by rw[A.lenR];exact hi)]
   exact hs
  ·rw[Zs q,ZsO (l:=ρ.set _ _),Ztj (Ne.symm q),<- ZsO]
   refine(A.slot j).mono (fun b us s r=>?_) (fun b us r=>Im.putL hH r) fun b hb us r=>?_
   ·have hne:b≠a:=fun z=>s.2.2 i (z▸ha)
    refine⟨?_,s.1,fun z=>s.2.1 (ZsT _ z),fun l z=>?_⟩
    ·rcases r with r|⟨o,r⟩
     ·exact .inl (by rw[Zr hne];exact r)
     ·exact .inr ⟨o,by rw[Zr hne];exact r⟩
    ·by_cases q':l=i
     ·subst q';rw[Zp] at z
      rcases hG b z with w|w
      ·exact s.2.2 l w
      ·exact s.2.1 (ZsW _ w)
     ·rw[Zs q'] at z;exact s.2.2 l z
   ·have hne:b≠a:=fun z=>A.disj j i q b hb (z▸ha)
    rw[Zr hne];exact r
theorem Ag.chg {i:Nat}{m:Md}{a:Addr}{vs':List V}{x':PV}{G G':List Addr} (A:Ag K B H0 H σ Γ ρ F (G++R)) (hm:Γ[i]?=some m) (ha:a∈F i) (hG:∀b∈G',b∈F i\/b∈G) (hGR:∀b∈G,b ∉ R)
  (hs:Ud K (upd H a (.lst vs')) (NO B (JS F i G') R) m x' σ[i]? G'):Ag K B H0 (upd H a (.lst vs')) σ Γ (ρ.set i x') (JS F i G') R:=Ag.chgB (o':=.lst vs') trivial A hm ha hG hGR hs
theorem VH {H1:Hp}{F1:Nat->List Addr}{i:Nat}{a:Addr}{o:HO}{G':List Addr} (s1:Zw H H1) (f1:∀i,∀b∈F1 i,b∈F i) (ha:a∈F1 i) (hG:∀b∈G',H b=none\/∃j,b∈F j):Frm H F (upd H1 a o) (JS F1 i G'):=fun b u h n=>by
 have hne:b≠a:=fun z=>n i (f1 i b (z▸ha))
 refine⟨by rw[Zr hne];exact s1 b u h,fun j z=>?_⟩
 by_cases q:j=i
 ·subst q;rw[Zp] at z
  rcases hG b z with w|⟨l,w⟩
  ·rw[h] at w;cases w
  ·exact n l w
 ·rw[Zs q] at z;exact n j (f1 j b z)
theorem Trees.setP:∀{xs:List PV}{vs:List V}{G:List Addr}{j:Nat}{y:PV}{w:V},Trees K H xs vs G->ZW K H y w []->∃G',(∀a∈G',a∈G)/\Trees K H (xs.set j y) (vs.set j w) G'
 |[],_,_,_,_,_,h,_=>⟨[],by simp,by rw[h.1];exact⟨rfl,rfl⟩⟩
 |x::xs,_,_,0,y,w,h,h'=>by
  obtain⟨v,r,G1,G2,rfl,h1,h2,h3,rfl⟩:=h
  exact⟨G2,fun a ha=>by simp[ha],w,r,[],G2,rfl,h',h2,by simp,rfl⟩
 |x::xs,_,_,j+1,y,w,h,h'=>by
  obtain⟨v,r,G1,G2,rfl,h1,h2,h3,rfl⟩:=h
  obtain⟨G',h4,h5⟩:=Trees.setP (j:=j) h2 h'
  refine⟨G1++G',fun a ha=>?_,v,r.set j w,G1,G',rfl,h1,h5,fun a ha z=>h3 a ha (h4 a z),rfl⟩
  rcases ZsS.mp ha with z|z
  ·simp[z]
  ·simp[h4 a z]
noncomputable def pSet (x i y:PV):Rr PV:=match x,i with
 |.lst xs,.int j=>match ixN xs.length j with
  |some n=>.ok (.lst (xs.set n y))
  |none=>.bad
 |_,_=>.bad
theorem Dn.pSet {x i y:PV}{ok:PV->Prop}{ex:PX->Prop} (d:Dn (pSet x i y) ok ex):∃xs j n,x=.lst xs/\i=.int j/\ixN xs.length j=some n/\ok (.lst (xs.set n y)):=by
 unfold L2.pSet at d
 split at d
 ·rename_i xs j
  cases e:ixN xs.length j with
  |none=>rw[e] at d;exact d.elim
  |some n=>rw[e] at d;exact⟨xs,j,n,rfl,rfl,e,d⟩
 ·exact d.elim
theorem Vi {i:Nat} (hm:Γ2[i]?=some .O) (he:DE K EX Γ Γ2 .P te f) (hi:DE K EX Γ2 Γ2 .A ti fi) :
  DS K EX Γ ⟨Γ2,Γ1,Γ3,k⟩ (Zi9 te (ZmW (QW i) ti ZiH)) (fun ρ=>(f ρ).thenS fun y=>(fi ρ).thenS fun j=>(pSet (gv i ρ) j y).thenS fun z=>.next (ρ.set i z)):=fun B H0 H σ ρ F D A d=>by
 refine he B H0 H σ ρ F [] _ A (d.thenS.imp (fun y _ d w H1 s1 r1=>?_) fun e q=>q)
 obtain⟨F1,f1,y1,y2,A1⟩:=r1
 obtain⟨v,h1,h2⟩:=A1.getO hm
 refine⟨v,h1,hi B H0 H1 σ ρ F1 [] _ A1 (d.thenS.imp (fun j _ d jv H2 s2 r2=>?_) fun e q=>q)⟩
 obtain⟨F2,f2,p2,A2⟩:=r2
 obtain⟨xs,jj,n,e1,rfl,e2,d⟩:=Dn.pSet d.thenS
 obtain⟨v',h1',h2'⟩:=A2.getO hm
 rw[h1] at h1';cases h1'
 rw[show ρ.getD i .non=.lst xs from e1] at h2'
 obtain⟨a,vs,G,rfl,hH,ht,hn,hF⟩:=h2'
 cases p2
 refine⟨a,vs,jj,n,rfl,rfl,hH,by rw[ht.length];exact e2, ?_⟩
 obtain⟨G',g1,g2⟩:=Trees.setP (j:=n) ht ((y2.same s2).tree y1)
 have haF:a∈F2 i:=by rw[hF];simp
 have hsub:∀b∈a::G',b∈F2 i:=fun b hb=>by
  rw[hF]
  rcases ZsZ.mp hb with rfl|hb
  ·simp
  ·simp[g1 b hb]
 refine d σ _ (JS F2 i (a::G')) (VH (s1.trans s2) (fun j b hb=>f1 j b (f2 j b hb)) haF fun b hb=>.inr ⟨i,f1 i b (f2 i b (hsub b hb))⟩) (Ag.chg (G:=[]) A2 hm haF (fun b hb=>.inl (hsub b hb)) (by simp) ?_)
 exact⟨_,h1,a,_,G',rfl,Z2,g2.put hH (fun z=>hn (g1 a z)),fun z=>hn (g1 a z),rfl⟩
noncomputable def pApp (x y:PV):Rr PV:=match x with
 |.lst xs=>if xs.length<1000000 then .ok (.lst (xs++[y])) else .bad
 |_=>.bad
theorem Dn.pApp {x y:PV}{ok:PV->Prop}{ex:PX->Prop} (d:Dn (pApp x y) ok ex):∃xs,x=.lst xs/\xs.length<1000000/\ok (.lst (xs++[y])):=by
 unfold L2.pApp at d
 split at d
 ·rename_i xs
  by_cases h:xs.length<1000000
  ·rw[if_pos h] at d;exact⟨xs,rfl,h,d⟩
  ·rw[if_neg h] at d;exact d.elim
 ·exact d.elim
theorem Dn.asL {x:PV}{ok:List PV->Prop}{ex:PX->Prop} (d:Dn (asL x) ok ex):∃xs,x=.lst xs/\ok xs:=by
 cases x with
 |lst xs=>exact⟨xs,rfl,d⟩
 |_=>exact d.elim
theorem QR {i:Nat} (hm:Γ[i]?=some .O) (hm2:Γ2[i]?=some .O) (he:DE K EX Γ Γ2 .F te f) :
  DS K EX Γ ⟨Γ2,Γ1,Γ3,k⟩ (Zbl (tBM K "list" UM (QW i) (VX te Zbe))) (fun ρ=>(asL (gv i ρ)).thenS fun xs=>(f ρ).thenS fun y=>(pApp (.lst xs) y).thenS fun z=>.next (ρ.set i z)):=fun B H0 H σ ρ F D A d=>by
 obtain⟨v,h1,h2⟩:=A.getO hm
 refine⟨v,h1, ?_⟩
 obtain⟨xs,e1,d⟩:=Dn.asL d.thenS
 rw[show ρ.getD i .non=.lst xs from e1] at h2
 obtain⟨a,vs,G,rfl,hH,ht,hn,hF⟩:=h2
 refine⟨.inl ⟨rfl,_,SqL.of hH⟩,he B H0 H σ ρ F [] _ A (d.thenS.imp (fun y _ d w H2 s2 r2=>?_) fun e q=>q)⟩
 obtain⟨F2,f2,G2,y1,y2,A2⟩:=r2
 obtain⟨xs',e2,hlen,d⟩:=Dn.pApp d.thenS
 cases e2
 obtain⟨v',h1',h2'⟩:=A2.getO hm2
 rw[h1] at h1';cases h1'
 rw[show ρ.getD i .non=.lst xs from e1] at h2'
 obtain⟨a',vs',G',e,hH',ht',hn',hF'⟩:=h2'
 cases e
 refine⟨a,vs',w,rfl,rfl,hH',by rw[ht'.length];exact Ztc hlen (by decide), ?_⟩
 have haF:a∈F2 i:=by rw[hF'];simp
 have dj:∀b∈G',b ∉ G2:=fun b hb z=>A2.disjR i b (by rw[hF'];simp[hb]) (ZsW _ z)
 have na:a ∉ G2:=fun z=>A2.disjR i a haF (ZsW _ z)
 have hsub:∀b∈a::(G'++G2),b∈F2 i\/b∈G2:=fun b hb=>by
  rw[hF']
  rcases ZsZ.mp hb with rfl|hb
  ·simp
  ·rcases ZsS.mp hb with z|z
   ·simp[z]
   ·exact .inr z
 have hna:a ∉ G'++G2:=fun z=>(ZsS.mp z).elim hn' na
 refine d σ _ (JS F2 i (a::(G'++G2))) (VH s2 f2 haF fun b hb=>?_) (Ag.chg (G:=G2) (R:=[]) A2 hm2 haF hsub (by simp) ?_)
 ·rcases hsub b hb with z|z
  ·exact .inr ⟨i,f2 i b z⟩
  ·exact(y2 b z).2
 ·exact⟨_,h1,a,_,G'++G2,rfl,Z2,(Trees.append ht' (Trees.one y1) dj).put hH' hna,hna,rfl⟩
theorem Zj2 {i:Nat} (hm:Γ[i]?=some .T) (hm2:Γ2[i]?=some .T) (he:DE K EX Γ Γ2 .Z te f) :
  DS K EX Γ ⟨Γ2,Γ1,Γ3,k⟩ (Zbl (tBM K "list" UM (QW i) (VX te Zbe))) (fun ρ=>(asL (gv i ρ)).thenS fun xs=>(f ρ).thenS fun y=>(pApp (.lst xs) y).thenS fun z=>.next (ρ.set i z)):=fun B H0 H σ ρ F D A d=>by
 obtain⟨a,vs,xs,h1,e1,hH,hr,hF⟩:=A.getT hm
 refine⟨_,h1, ?_⟩
 obtain⟨xs',e1',d⟩:=Dn.asL d.thenS
 have:xs'=xs:=by have:=e1'.symm.trans (show gv i ρ=.lst xs from e1);cases this;rfl
 subst this
 refine⟨.inl ⟨rfl,_,SqL.of hH⟩,he B H0 H σ ρ F [] _ A (d.thenS.imp (fun y _ d w H2 s2 r2=>?_) fun e q=>q)⟩
 obtain⟨F2,f2,y1,A2⟩:=r2
 obtain⟨xs'',e2,hlen,d⟩:=Dn.pApp d.thenS
 cases e2
 obtain⟨a',vs',xs'',h1',e1'',hH',hr',hF'⟩:=A2.getT hm2
 rw[h1] at h1';cases h1'
 have:xs''=xs':=by have:=e1'.symm.trans (show gv i ρ=.lst xs'' from e1'');cases this;rfl
 subst this
 refine⟨a,vs',w,rfl,rfl,hH',by rw[hr'.length];exact Ztc hlen (by decide), ?_⟩
 have haF:a∈F2 i:=by rw[hF'];simp
 refine d σ _ (JS F2 i [a]) (VH s2 f2 haF fun b hb=>.inr ⟨i,f2 i b (by rw[hF'];exact hb)⟩) (Ag.chg (G:=[]) A2 hm2 haF (fun b hb=>.inl (by rw[hF'];exact hb)) (by simp) ?_)
 have same:JS F2 i [a]=F2:=by
  funext j
  by_cases q:j=i
  ·subst q;rw[Zp,hF']
  ·rw[Zs q]
 rw[same]
 exact⟨a,_,_,h1,rfl,Z2,(hr'.append (Reps.one y1)).put hH' (fun z=>z.2.2 i haF),rfl⟩
def DG (K:W.Frag) (EX:PX->Hp->Prop) (Γ Γ':List Md) (g:TG) (h:PV->List PV->Rr (List PV)):Prop:=
 ∀(B:Addr->Prop) (H0 H:Hp) (σ:St) (ρ:List PV) (F:Nat->List Addr) (v:V) (x:PV) (N:St->Hp->Prop),Ag K B H0 H σ Γ ρ F []->Rep K H (NO B F []) x v ->
  Dn (h x ρ) (fun ρ'=>∀σ' F',(∀i,∀a∈F' i,a∈F i)->Ag K B H0 H σ' Γ' ρ' F' []->N σ' H) (fun e=>∀H',Zw H0 H'->EX e H')->g v σ H N
theorem Zm7 {i:Nat} (hi:i<Γ.length):DG K EX Γ (Γ.set i .S) (Zad i) (fun x ρ=>.ok (ρ.set i x)):=fun B H0 H σ ρ F v x N A r d =>
 d _ (JS F i []) Vu (Ag.put (G:=[]) (R:=[]) A hi (by simp) ⟨rfl,v,rfl,Rep.mono (fun a us s r=>⟨r,s.1,s.2.1,fun j z=>s.2.2 j (Vu j a z)⟩) (fun a us r=>r) r⟩)
theorem ZdL {i:Nat} (hi:i<Γ.length):DG K EX Γ (Γ.set i .P) (Zad i) (fun x ρ=>(grd x).bind fun x=>.ok (ρ.set i x)):=fun B H0 H σ ρ F v x N A r d=>by
 unfold grd at d;dsimp only at d
 by_cases h:x.flat=true
 ·rw[if_pos h] at d
  exact d _ (JS F i []) Vu (Ag.put (G:=[]) (R:=[]) A hi (by simp) ⟨rfl,v,rfl,h,r.any⟩)
 ·rw[if_neg h] at d;exact d.elim
noncomputable def ZmT (xs ρ:List PV):Rr (List PV):=match xs with
 |[]=>.ok ρ
 |_=>.bad
noncomputable def hdR (h:PV->List PV->Rr (List PV)) (hs:List PV->List PV->Rr (List PV)) (xs:List PV) (ρ:List PV):Rr (List PV):=match xs with
 |x::r=>(h x ρ).bind fun ρ'=>hs r ρ'
 |[]=>.bad
noncomputable def asT (n:Nat) (x:PV):Rr (List PV):=match x with
 |.tup xs=>if xs.length=n then .ok xs else .bad
 |_=>.bad
theorem Dn.asT {n:Nat}{x:PV}{ok:List PV->Prop}{ex:PX->Prop} (d:Dn (asT n x) ok ex):∃xs,x=.tup xs/\xs.length=n/\ok xs:=by
 cases x with
 |tup xs =>
  unfold L2.asT at d
  by_cases h:xs.length=n
  ·simp only[if_pos h] at d;exact⟨xs,rfl,h,d⟩
  ·simp only[if_neg h] at d;exact d.elim
 |_=>exact d.elim
def DGF (K:W.Frag) (EX:PX->Hp->Prop) (Γ Γ':List Md) (g:TG) (h:PV->List PV->Rr (List PV)):Prop:=
 ∀(B:Addr->Prop) (H0 H:Hp) (σ:St) (ρ:List PV) (F:Nat->List Addr) (G R:List Addr) (v:V) (x:PV) (N:St->Hp->Prop),Ag K B H0 H σ Γ ρ F (G++R)->(∀a∈G,a ∉ R)->ZW K H x v G ->
  Dn (h x ρ) (fun ρ'=>∀σ' F',(∀i,∀a∈F' i,a∈F i\/a∈G)->Ag K B H0 H σ' Γ' ρ' F' R->N σ' H) (fun e=>∀H',Zw H0 H'->EX e H')->g v σ H N
def Zma (K:W.Frag) (EX:PX->Hp->Prop) (Γ Γ':List Md) (g:TGs) (h:List PV->List PV->Rr (List PV)):Prop:=
 ∀(B:Addr->Prop) (H0 H:Hp) (σ:St) (ρ:List PV) (F:Nat->List Addr) (G R:List Addr) (vs:List V) (xs:List PV) (N:St->Hp->Prop),Ag K B H0 H σ Γ ρ F (G++R)->(∀a∈G,a ∉ R)->Trees K H xs vs G ->
  Dn (h xs ρ) (fun ρ'=>∀σ' F',(∀i,∀a∈F' i,a∈F i\/a∈G)->Ag K B H0 H σ' Γ' ρ' F' R->N σ' H) (fun e=>∀H',Zw H0 H'->EX e H')->g vs σ H N
theorem Zl0 {i:Nat} (hi:i<Γ.length):DGF K EX Γ (Γ.set i .O) (Zad i) (fun x ρ=>.ok (ρ.set i x)):=fun B H0 H σ ρ F G R v x N A hG r d =>
 d _ (JS F i G) (fun j a ha=>by
  by_cases q:j=i
  ·subst q;rw[Zp] at ha;exact .inr ha
  ·rw[Zs q] at ha;exact .inl ha) (Ag.put A hi hG ⟨v,rfl,r⟩)
theorem Zlz {i:Nat} (hi:i<Γ.length):DGF K EX Γ (Γ.set i .P) (Zad i) (fun x ρ=>(grd x).bind fun x=>.ok (ρ.set i x)):=fun B H0 H σ ρ F G R v x N A hG r d=>by
 unfold grd at d;dsimp only at d
 by_cases h:x.flat=true
 ·rw[if_pos h] at d
  exact d _ (JS F i []) (fun j a ha=>.inl (Vu j a ha)) (Ag.put (G:=[]) (A.less fun a ha=>ZsT _ ha) hi (by simp) ⟨rfl,v,rfl,h,r.rep fun _ _=>trivial⟩)
 ·rw[if_neg h] at d;exact d.elim
theorem ZdK:Zma K EX Γ Γ ZmX ZmT:=fun B H0 H σ ρ F G R vs xs N A hG r d=>by
 cases xs with
 |nil=>exact⟨r.1,d σ F (fun _ _ h=>.inl h) (A.less fun a ha=>ZsT _ ha)⟩
 |cons x xs=>exact d.elim
theorem U9 {g:TG}{gs:TGs}{h:PV->List PV->Rr (List PV)}{hs:List PV->List PV->Rr (List PV)} (h1:DGF K EX Γ Γ1 g h) (h2:Zma K EX Γ1 Γ2 gs hs):Zma K EX Γ Γ2 (Zlo g gs) (hdR h hs):=fun B H0 H σ ρ F G R vs xs N A hG r d=>by
 cases xs with
 |nil=>exact d.elim
 |cons x xs =>
  obtain⟨v,r',G1,G2,rfl,r1,r2,dj,rfl⟩:=r
  refine⟨v,r',rfl,h1 B H0 H σ ρ F G1 (G2++R) v x _ (by rw[<- Zta];exact A) (fun a ha z=>?_) r1 ((show Dn ((h x ρ).bind fun ρ'=>hs xs ρ') _ _ from d).bind.imp (fun ρ' _ d σ' F' f' A'=>?_) fun e q=>q)⟩
  ·rcases ZsS.mp z with z|z
   ·exact dj a ha z
   ·exact hG a (ZsW _ ha) z
  ·refine h2 B H0 H σ' ρ' F' G2 R r' xs _ A' (fun a ha=>hG a (ZsT _ ha)) r2 (d.imp (fun ρ2 _ d σ2 F2 f2 A2=>d σ2 F2 (fun j a ha=>?_) A2) fun e q=>q)
   rcases f2 j a ha with z|z
   ·rcases f' j a z with w|w
    ·exact .inl w
    ·exact .inr (ZsW _ w)
   ·exact .inr (ZsT _ z)
theorem ZfY {n:Nat}{gs:TGs}{hs:List PV->List PV->Rr (List PV)} (h2:Zma K EX Γ Γ2 gs hs):DGF K EX Γ Γ2 (ZmV K n gs) (fun x ρ=>(asT n x).bind fun xs=>hs xs ρ):=fun B H0 H σ ρ F G R v x N A hG r d=>by
 obtain⟨xs,rfl,hl,d⟩:=Dn.asT d.bind
 obtain⟨a,vs,rfl,hn,hr⟩:=r
 exact⟨a,vs,rfl,hn.sqT,by rw[hr.length];exact hl,h2 B H0 H σ ρ F G R vs xs N A hG hr d⟩
theorem ZfT {gt:TG}{h:PV->List PV->Rr (List PV)} (he:DE K EX Γ Γ1 .F te f) (hg:DGF K EX Γ1 Γ2 gt h):DS K EX Γ ⟨Γ2,Γ3,Γ',k⟩ (Zi9 te gt) (fun ρ=>(f ρ).thenS fun x=>(h x ρ).thenS fun ρ'=>.next ρ'):=fun B H0 H σ ρ F D A d=>by
 refine he B H0 H σ ρ F [] _ A (d.thenS.imp (fun x _ d v H1 s1 r1=>?_) fun e q=>q)
 obtain⟨F1,f1,G,h1,h2,A1⟩:=r1
 refine hg B H0 H1 σ ρ F1 G [] v x _ A1 (by simp) h1 (d.thenS.imp (fun ρ' _ d σ' F' f' A'=>d σ' H1 F' (fun a o ho n=>⟨s1 a o ho,fun j z=>?_⟩) A') fun e q=>q)
 rcases f' j a z with w|w
 ·exact n j (f1 j a w)
 ·rcases (h2 a w).2 with q|⟨l,q⟩
  ·rw[ho] at q;cases q
  ·exact n l q
end
noncomputable def RS.turn:RS->(List PV->RS)->RS
 |.next ρ,f=>f ρ
 |.cont ρ,f=>f ρ
 |.brk ρ,_=>.next ρ
 |r,_=>r
noncomputable def Uo (b:PV->List PV->RS):List PV->List PV->RS
 |[],ρ=>.next ρ
 |x::xs,ρ=>(b x ρ).turn (Uo b xs)
noncomputable def V6 (c:List PV->Rr Bool) (b:List PV->RS):Nat->List PV->Option RS
 |0,_=>none
 |n+1,ρ=>match c ρ with
  |.ok true=>match b ρ with
   |.next ρ'=>V6 c b n ρ'
   |.cont ρ'=>V6 c b n ρ'
   |.brk ρ'=>some (.next ρ')
   |r=>some r
  |.ok false=>some (.next ρ)
  |.exc e=>some (.exc e)
  |.bad=>some .bad
open Classical in
noncomputable def Us (c:List PV->Rr Bool) (b:List PV->RS) (ρ:List PV):RS:=if h:∃n r,V6 c b n ρ=some r then h.choose_spec.choose else .bad
theorem VS {c:List PV->Rr Bool}{b:List PV->RS}:∀{n m:Nat}{ρ:List PV}{r:RS},n<=m->V6 c b n ρ=some r->V6 c b m ρ=some r
 |0,_,_,_,_,h=>by cases h
 |n+1,0,_,_,hl,_=>by omega
 |n+1,m+1,ρ,r,hl,h=>by
  unfold V6 at h ⊢
  cases hc:c ρ with
  |ok b' =>
   cases b' with
   |true =>
    rw[hc] at h
    cases hb:b ρ with
    |next ρ'=>rw[hb] at h;exact VS (by omega) h
    |cont ρ'=>rw[hb] at h;exact VS (by omega) h
    |brk ρ'=>rw[hb] at h;exact h
    |ret x=>rw[hb] at h;exact h
    |exc e=>rw[hb] at h;exact h
    |bad=>rw[hb] at h;exact h
   |false=>rw[hc] at h;exact h
  |exc e=>rw[hc] at h;exact h
  |bad=>rw[hc] at h;exact h
theorem ZfI {c:List PV->Rr Bool}{b:List PV->RS}{n m:Nat}{ρ:List PV}{r r':RS} (h:V6 c b n ρ=some r) (h':V6 c b m ρ=some r'):r=r':=by
 rcases Nat.le_total n m with q|q
 ·have:=VS q h;rw[h'] at this;exact(Option.some.inj this).symm
 ·have:=VS q h';rw[h] at this;exact Option.some.inj this
theorem Zbi {c:List PV->Rr Bool}{b:List PV->RS}{n:Nat}{ρ:List PV}{r:RS} (h:V6 c b n ρ=some r):Us c b ρ=r:=by
 unfold Us
 have hx:∃n r,V6 c b n ρ=some r:=⟨n,r,h⟩
 rw[dif_pos hx]
 exact ZfI hx.choose_spec.choose_spec h
section
variable {K:W.Frag}{B:Addr->Prop}{EX:PX->Hp->Prop}{H0 H H':Hp}{σ:St}{Γ Γ1 Γ2 Γ3 Γl Γt:List Md}{ρ:List PV}{F F':Nat->List Addr}{k:Kd}{x:PV}{v:V}{te ti:TE}{f fc fe:List PV->Rr PV}
 {t u:TS}{g g':List PV->RS}{Y:Tys}{D:ZgA}
theorem J9 {wi:TI}{gt:TG}{fi:List PV->Rr (List PV)}{h:PV->List PV->Rr (List PV)} (hi:DI K EX Γ Γ1 wi fi) (hw:Zii Γ1 Γl=true) (hg:DG K EX Γl Γt gt h) (hb:DS K EX Γt ⟨Γl,Γl,Γl,k⟩ t g) :
  DS K EX Γ ⟨Γl,Γ2,Γ3,k⟩ (Zmk wi gt t) (fun ρ=>(fi ρ).thenS fun xs=>Uo (fun x ρ=>(h x ρ).thenS g) xs ρ):=fun B H0 H σ ρ F D A d=>by
 refine hi B H0 H σ ρ F [] _ A (d.thenS.imp (fun xs _ d J H1 F1 s1 f1 A1 it=>?_) fun e q=>q)
 obtain⟨Fl,fl,Al⟩:=A1.weak hw
 have fr0:Frm H F H1 Fl:=Frm.of s1 fun j a ha=>f1 j a (fl j a ha)
 have fr1:Frm H1 F1 H1 Fl:=Frm.of (Zw.refl _) fl
 refine⟨fun i m σ' H'=>∃ρ' F',m=xs.length-i/\i<=xs.length/\Frm H1 F1 H' F'/\Ag K B H0 H' σ' Γl ρ' F' []/\DnS K B EX ⟨Γl,Γ2,Γ3,k⟩ H0 H' F' D (Uo (fun x ρ=>(h x ρ).thenS g) (xs.drop i) ρ'),
  ⟨xs.length,ρ,Fl,by simp,Ztp _,fr1,Al,by simpa using DnS.shift fr0 d⟩, ?_⟩
 rintro i m σ' H' ⟨ρ',F',rfl,hi',fr,A',dn⟩
 have itp:=it H' F' fr i
 cases hx:xs[i]? with
 |none =>
  refine .inl ⟨itp.2 hx, ?_⟩
  have hd:xs.drop i=[]:=ZtE (Zt3.mp hx)
  rw[hd] at dn
  exact dn σ' H' F' Frm.refl A'
 |some x =>
  have hlt:i<xs.length:=(ZsR.mp hx).1
  obtain⟨go,yl⟩:=itp.1 x hx
  have hdx:xs.drop i=x::xs.drop (i+1):=by
   rw[Zth hlt]
   rw[ZsP hlt] at hx;cases hx;rfl
  rw[hdx] at dn
  simp only[Uo] at dn
  refine .inr ⟨go,fun σ2 H2=>∃ρ2 F2,Frm H1 F1 H2 F2/\Ag K B H0 H2 σ2 Γl ρ2 F2 []/\DnS K B EX ⟨Γl,Γ2,Γ3,k⟩ H0 H2 F2 D (Uo (fun x ρ=>(h x ρ).thenS g) (xs.drop (i+1)) ρ2),
   fun σ2 H2 ⟨ρ2,F2,a1,a2,a3⟩=>⟨xs.length-(i+1),by omega,ρ2,F2,rfl,hlt,a1,a2,a3⟩,fun v H3 y=>?_⟩
  obtain⟨s3,rx⟩:=yl v H3 y
  have fr3:Frm H' F' H3 F':=Frm.of s3 fun _ _ h=>h
  refine hg B H0 H3 σ' ρ' F' v x _ (A'.grow s3) (Rep.mono (fun a us s r=>⟨r,s.1⟩) (fun a us r=>r) rx) ?_
  cases e:h x ρ' with
  |ok ρt =>
   rw[e] at dn
   refine fun σt Ft ft At=>hb B H0 H3 σt ρt Ft _ At ?_
   have frt:Frm H' F' H3 Ft:=Frm.of s3 ft
   simp only[Rr.thenS_ok] at dn
   cases e2:g ρt with
   |next ρ2=>rw[e2] at dn;exact fun σ2 H2 F2 fr2 A2=>⟨ρ2,F2,fr.trans (frt.trans fr2),A2,DnS.shift (frt.trans fr2) dn⟩
   |cont ρ2=>rw[e2] at dn;exact fun σ2 H2 F2 fr2 A2=>⟨ρ2,F2,fr.trans (frt.trans fr2),A2,DnS.shift (frt.trans fr2) dn⟩
   |brk ρ2=>rw[e2] at dn;exact fun σ2 H2 F2 fr2 A2=>dn σ2 H2 F2 (frt.trans fr2) A2
   |ret y=>rw[e2] at dn;exact dn
   |exc q=>rw[e2] at dn;exact dn
   |bad=>rw[e2] at dn;exact dn
  |exc q=>rw[e] at dn;exact dn
  |bad=>rw[e] at dn;exact dn
theorem ZdI {c:TT}{fc:List PV->Rr Bool} (hc:DT K EX Γ Γ c fc) (hb:DS K EX Γ ⟨Γ,Γ,Γ,k⟩ t g):DS K EX Γ ⟨Γ,Γ2,Γ3,k⟩ (ZhW c t) (fun ρ=>Us fc g ρ):=fun B H0 H σ ρ F D A d=>by
 dsimp only at d
 have ex:∃n,V6 fc g n ρ=some (Us fc g ρ):=by
  by_cases hx:∃n r,V6 fc g n ρ=some r
  ·obtain⟨n,r,e⟩:=hx
   exact⟨n,by rw[Zbi e];exact e⟩
  ·unfold Us at d
   rw[dif_neg hx] at d
   exact d.elim
 obtain⟨n0,e0⟩:=ex
 generalize hr:Us fc g ρ=r at e0 d
 refine⟨fun m σ' H'=>∃ρ' F',Frm H F H' F'/\Ag K B H0 H' σ' Γ ρ' F' []/\V6 fc g m ρ'=some r,⟨n0,ρ,F,Frm.refl,A,e0⟩, ?_⟩
 rintro m σ' H' ⟨ρ',F',fr,A',e⟩
 cases m with
 |zero=>cases e
 |succ m =>
  unfold V6 at e
  refine hc B H0 H' σ' ρ' F' [] _ A' ?_
  cases e1:fc ρ' with
  |ok b =>
   rw[e1] at e
   refine fun H2 F2 s2 f2 A2=>?_
   have fr2:Frm H' F' H2 F2:=Frm.of s2 f2
   cases b with
   |true =>
    refine⟨fun σ3 H3=>∃ρ3 F3,Frm H F H3 F3/\Ag K B H0 H3 σ3 Γ ρ3 F3 []/\V6 fc g m ρ3=some r,fun σ3 H3 h=>⟨m,Nat.lt_succ_self _,h⟩, ?_⟩
    refine hb B H0 H2 σ' ρ' F2 _ A2 ?_
    cases e2:g ρ' with
    |next ρ2=>rw[e2] at e;exact fun σ3 H3 F3 fr3 A3=>⟨ρ2,F3,fr.trans (fr2.trans fr3),A3,e⟩
    |cont ρ2=>rw[e2] at e;exact fun σ3 H3 F3 fr3 A3=>⟨ρ2,F3,fr.trans (fr2.trans fr3),A3,e⟩
    |brk ρ2 =>
     rw[e2] at e
     have e':RS.next ρ2=r:=Option.some.inj e
     rw[<- e'] at d
     exact fun σ3 H3 F3 fr3 A3=>d σ3 H3 F3 (fr.trans (fr2.trans fr3)) A3
    |ret y =>
     rw[e2] at e
     have e':RS.ret y=r:=Option.some.inj e
     rw[<- e'] at d
     exact d
    |exc q =>
     rw[e2] at e
     have e':RS.exc q=r:=Option.some.inj e
     rw[<- e'] at d
     exact d
    |bad =>
     rw[e2] at e
     have e':RS.bad=r:=Option.some.inj e
     rw[<- e'] at d
     exact d
   |false =>
    have e':RS.next ρ'=r:=Option.some.inj e
    rw[<- e'] at d
    exact d σ' H2 F2 (fr.trans fr2) A2
  |exc q =>
   rw[e1] at e
   have e':RS.exc q=r:=Option.some.inj e
   rw[<- e'] at d
   exact d
  |bad =>
   rw[e1] at e
   have e':RS.bad=r:=Option.some.inj e
   rw[<- e'] at d
   exact d
theorem Trees.get:∀{xs:List PV}{vs:List V}{G:List Addr}{j:Nat}{x:PV},Trees K H xs vs G->xs[j]?=some x->∃v G',vs[j]?=some v/\ZW K H x v G'/\∀a∈G',a∈G
 |[],_,_,_,_,_,e=>by simp at e
 |y::xs,_,_,0,x,h,e=>by
  obtain⟨v,r,G1,G2,rfl,h1,h2,h3,rfl⟩:=h
  simp at e;subst e
  exact⟨v,G1,rfl,h1,fun a ha=>by simp[ha]⟩
 |y::xs,_,_,j+1,x,h,e=>by
  obtain⟨v,r,G1,G2,rfl,h1,h2,h3,rfl⟩:=h
  obtain⟨w,G',e1,e2,e3⟩:=Trees.get (j:=j) h2 (by simpa using e)
  exact⟨w,G',by simpa using e1,e2,fun a ha=>by simp[e3 a ha]⟩
theorem ZgD {xs:List PV}{vs:List V}{G:List Addr}{i:Int}{z:PV} (h:Trees K H xs vs G) (e:atI xs i=some z):∃u G',atI vs i=some u/\ZW K H z u G'/\∀a∈G',a∈G:=by
 unfold atI at e ⊢
 rw[h.length]
 cases q:ixN xs.length i with
 |none=>rw[q] at e;cases e
 |some j=>rw[q] at e;exact h.get e
theorem Zh9 {i:Nat}{h:Int->Int->Int} (hm:Γ2[i]?=some .O) (hmΓ:Γ[i]?=some .O) (hi:DE K EX Γ Γ2 .A ti f) (he:DE K EX Γ2 Γ2 .A te fe) :
  DS K EX Γ ⟨Γ2,Γ1,Γ3,k⟩ (Zko (QW i) ti te (Zk2 K) (ipI h) ZiH) (fun ρ=>(f ρ).thenS fun j=>(pIx (gv i ρ) j).thenS fun z=>(asL (gv i ρ)).thenS fun _=>(fe ρ).thenS fun y=>(oI (fun _ _=>true) (fun a b=>.int (h a b)) z y).thenS fun w=>(pSet (gv i ρ) j w).thenS fun z=>.next (ρ.set i z)):=fun B H0 H σ ρ F D A d=>by
 obtain⟨v,h1,h2⟩:=A.getO hmΓ
 refine⟨v,h1,hi B H0 H σ ρ F [] _ A (d.thenS.imp (fun j _ d jv H1 s1 r1=>?_) fun e q=>q)⟩
 obtain⟨F1,f1,p1,A1⟩:=r1
 obtain⟨z,ez,d⟩:=Dn.pIx d.thenS
 obtain⟨xs,ex,d⟩:=Dn.asL d.thenS
 rw[ex] at ez
 obtain⟨v',h1',h2'⟩:=A1.getO hm
 rw[h1] at h1';cases h1'
 rw[show ρ.getD i .non=.lst xs from ex] at h2'
 obtain⟨a,vs,G,rfl,hH,ht,hn,hF⟩:=h2'
 obtain⟨j,rfl⟩:∃j',j=PV.int j':=by cases j<;>first|exact⟨_,rfl⟩|(simp only[pIx] at ez;cases ez;done)
 cases p1
 simp only[pIx] at ez
 cases e1:atI xs j with
 |none=>rw[e1] at ez;cases ez
 |some z' =>
  rw[e1] at ez;cases ez
  obtain⟨u,G2,e2,e3,e4⟩:=ZgD ht e1
  refine⟨a,vs,j,u,rfl,rfl,SqL.of hH,e2,he B H0 H1 σ ρ F1 [] _ A1 (d.thenS.imp (fun y _ d w H2 s2 r2=>?_) fun e q=>q)⟩
  obtain⟨F2,f2,p2,A2⟩:=r2
  obtain⟨zi,yi,rfl,rfl⟩:∃zi yi,z=PV.int zi/\y=PV.int yi:=by cases z<;>cases y<;>first|exact⟨_,_,rfl,rfl⟩|(exact d.elim;done)
  obtain⟨e5,_⟩:=e3
  subst e5
  cases p2
  refine⟨zi,yi,rfl,rfl, ?_⟩
  obtain⟨xs',jj,n,ex',e6,e7,d⟩:=Dn.pSet (show DnS _ _ _ _ _ _ _ _ ((pSet (gv i ρ) (.int j) (.int (h zi yi))).thenS _) from d).thenS
  cases e6
  rw[ex] at ex';cases ex'
  obtain⟨v',h1',h2'⟩:=A2.getO hm
  rw[h1] at h1';cases h1'
  rw[show ρ.getD i .non=.lst xs from ex] at h2'
  obtain⟨a',vs',G',e,hH',ht',hn',hF'⟩:=h2'
  cases e
  refine⟨a,vs',j,n,rfl,rfl,hH',by rw[ht'.length];exact e7, ?_⟩
  obtain⟨G'',g1,g2⟩:=Trees.setP (j:=n) (y:=.int (h zi yi)) (w:=.int (h zi yi)) ht' ⟨rfl,rfl⟩
  have haF:a∈F2 i:=by rw[hF'];simp
  have hsub:∀b∈a::G'',b∈F2 i:=fun b hb=>by
   rw[hF']
   rcases ZsZ.mp hb with rfl|hb
   ·simp
   ·simp[g1 b hb]
  refine d σ _ (JS F2 i (a::G'')) (VH (s1.trans s2) (fun j b hb=>f1 j b (f2 j b hb)) haF fun b hb=>.inr ⟨i,f1 i b (f2 i b (hsub b hb))⟩) (Ag.chg (G:=[]) A2 hm haF (fun b hb=>.inl (hsub b hb)) (by simp) ?_)
  exact⟨_,h1,a,_,G'',rfl,Z2,g2.put hH' (fun z=>hn' (g1 a z)),fun z=>hn' (g1 a z),rfl⟩
end
noncomputable def RS.out:RS->Rr PV
 |.next _=>.ok .non
 |.ret x=>.ok x
 |.exc e=>.exc e
 |.brk _=>.bad
 |.cont _=>.bad
 |.bad=>.bad
@[simp] theorem RS.out_next {ρ:List PV}:(RS.next ρ).out=.ok .non:=rfl
@[simp] theorem RS.out_ret {x:PV}:(RS.ret x).out=.ok x:=rfl
@[simp] theorem RS.out_exc {e:PX}:(RS.exc e).out=.exc e:=rfl
def Ref (r r':Rr PV):Prop:=r=.bad\/r=r'
structure Pm where
 α:Type
 enc:α->List PV
 pre:α->Prop
 out:α->Rr PV
open Classical in
noncomputable def Pm.fn (m:Pm) (xs:List PV):Rr PV:=if h:∃a,m.enc a=xs/\m.pre a then m.out h.choose else .bad
theorem Pm.fn_eq (m:Pm) (a:m.α) (h:m.pre a) (inj:∀b,m.enc b=m.enc a->m.out b=m.out a):m.fn (m.enc a)=m.out a:=by
 unfold Pm.fn
 have hx:∃b,m.enc b=m.enc a/\m.pre b:=⟨a,rfl,h⟩
 rw[dif_pos hx]
 exact inj _ hx.choose_spec.1
theorem Pm.ref (m:Pm) {g:List PV->Rr PV} (h:∀a,m.pre a->g (m.enc a)=m.out a) (xs:List PV):Ref (m.fn xs) (g xs):=by
 unfold Pm.fn
 by_cases hx:∃a,m.enc a=xs/\m.pre a
 ·rw[dif_pos hx]
  have h2:=hx.choose_spec
  right
  have:=h _ h2.2
  rw[h2.1] at this
  exact this.symm
 ·rw[dif_neg hx];exact .inl rfl
section
variable {K:W.Frag}{B:Addr->Prop}{H:Hp}
theorem Ag.init {xs:List PV}{vs:List V}{n:Nat} (h:Reps K H B xs vs):Ag K (fun a=>B a\/H a=none) H H (vs.map some++List.replicate n none) (List.replicate xs.length .S++List.replicate n .U) (xs++List.replicate n .non) (fun _=>[]) []:=by
 refine⟨Zw.refl _,fun a h=>.inr h,by simp,by simp,by simp,by simp,by simp,by simp,by simp[h.length],by simp,fun i=>?_⟩
 by_cases hi:i<xs.length
 ·have e1:(List.replicate xs.length Md.S++List.replicate n Md.U).getD i .U=.S:=by
   rw[ZsO,Ztb (by simpa using hi),Zu9 hi];rfl
  have e2:(xs++List.replicate n PV.non).getD i .non=xs[i]:=by
   rw[ZsO,Ztb hi,ZsP hi];rfl
  rw[e1,e2]
  obtain⟨v,h1,h2⟩:=h.get (ZsP hi)
  refine⟨rfl,v, ?_,Rep.mono (fun a us s r=>⟨r,.inl s,by simp,by simp⟩) (fun a us r=>r) h2⟩
  rw[Ztb (by rw[ZsV,h.length];exact hi),Ztf,h1];rfl
 ·have e1:(List.replicate xs.length Md.S++List.replicate n Md.U).getD i .U=.U:=by
   rw[ZsO,ZsY (by simpa using hi)]
   by_cases q:i-(List.replicate xs.length Md.S).length<n
   ·rw[Zu9 q];rfl
   ·rw[Zt2 (by simpa using q)];rfl
  rw[e1]
  exact rfl
end
section
variable {P:Program}{w:World}{K:W.Frag}{mg:Str->Option Value}{base:Heap}
theorem Fun.okP {x qual:Str}{st:Stmt}{f:Addr}{fd:FuncData}{N ps:List Str}{k n l:Nat}{kd:Kd}{m:List PV->Rr PV} (F:Fun K x qual st f fd) (S:Zx N ps (Zg st)) (hn:ps.length=n) (hl:N.length-n=l)
  (hbody:∀(cdv:Value) (A:Around) (outer:List Env) (s:Shared) (H:Hp) (E:XK),Qc k (A.deeper (envOfC qual (Zg st) s.heap.objs.size f cdv)) ->
   ∃t g Y,Y.r=kd/\PSs (Zbg CX0 P w K mg base N qual (Zg st) f cdv A outer s H E).nox (Zt st) t/\DS K X0 (List.replicate n .S++List.replicate l .U) Y t g/\∀xs,Ref (m xs) (g (xs++List.replicate l .non)).out) (hkN:kd≠.N:=by nofun) :
  JT P w K mg base CX0 (k+1) f fd ps (spF K n kd W0 m):=by
 refine F.ok S (fun vs H Q E h=>?_) (fun cdv A outer s H vs Q E hr h=>?_)
 ·obtain⟨B,xs,h1,h2,_⟩:=h
  rw[h1.length,h2,hn]
 ·obtain⟨B,xs,h1,h2,dn⟩:=h
  obtain⟨t,g,Y,hY,ht,hd,href⟩:=hbody cdv A outer s H E hr
  refine⟨t,ht, ?_⟩
  have A0:=Ag.init (n:=l) h1
  have est:VY N vs=vs.map some++List.replicate l none:=by
   unfold VY
   rw[h1.length,h2,hl]
  rw[est]
  rw[h2] at A0
  refine hd _ H H _ _ _ _ A0 ?_
  have hdn:Dn (g (xs++List.replicate l .non)).out (fun x=>∀v H',Zw H H'->Zg8 K B H kd x v H'->Q v H') (fun e=>∀H',Zw H H'->W0 e E H'):=by
   rcases href xs with e|e
   ·rw[e] at dn;exact dn.elim
   ·rw[<- e];exact dn
  have retK:∀{x v H'},Zg8 K (fun a=>B a\/H a=none) H kd x v H'->Zg8 K B H kd x v H':=fun {x v H'} h=>by
   cases kd with
   |P=>exact h
   |F=>exact h
   |T=>exact Rep.mono (fun a us s r=>⟨r,s.elim id .inr⟩) (fun a us r=>r) h
   |Z=>exact Rep.mono (fun a us s r=>⟨r,s.elim id .inr⟩) (fun a us r=>r) h
   |A=>exact Rep.mono (fun a us s r=>⟨r,s.elim id .inr⟩) (fun a us r=>r) h
   |N=>exact h
  cases e:g (xs++List.replicate l .non) with
  |next ρ =>
   rw[e] at hdn
   refine fun σ' H' F' fr A'=>hdn .non H' A'.same ?_
   cases kd with
   |P=>exact⟨rfl,rfl⟩
   |F=>exact⟨[],⟨rfl,rfl⟩,by simp⟩
   |T=>exact rfl
   |Z=>exact rfl
   |A=>exact rfl
   |N=>exact absurd rfl hkN
  |ret x=>rw[e] at hdn;exact fun v H' s r=>hdn v H' s (retK (hY▸r))
  |exc q=>rw[e] at hdn;exact fun H' s=>hdn H' s
  |brk ρ=>rw[e] at hdn;exact hdn.elim
  |cont ρ=>rw[e] at hdn;exact hdn.elim
  |bad=>rw[e] at hdn;exact hdn.elim
end
section
variable {K:W.Frag}{n:Nat}{m:List PV->Rr PV}{e:Expr}{ta:TA}{Γ Γ':List Md}{fa:List PV->Rr (List PV)}
theorem Zg6 (hn:Len fa n) (ha:DAA K X0 Γ Γ' ta fa):DE K X0 Γ Γ' .F (UV (spF K n .F W0 m) ta) (fun ρ=>(fa ρ).bind m):=ZdO (E:=E0) (W:=W0) (fun σ H Q h=>h) (fun e H' h=>h) hn ha
theorem Ze9 (hn:Len fa n) (ha:DAA K X0 Γ Γ' ta fa):DE K X0 Γ Γ' .P (UV (spF K n .P W0 m) ta) (fun ρ=>(fa ρ).bind m):=ZdN (E:=E0) (W:=W0) (fun σ H Q h=>h) (fun e H' h=>h) hn ha
end
theorem Zes {K:W.Frag}{H:Hp}{a:Addr}{ns:List Int}{m:List PV->Rr PV} (hm:m [.lst (ns.map PV.int)]=.ok (.bl true)) (hS:SqL K H a (ns.map V.int)):spF K 1 .P W0 m [.ref a] H (fun v _=>v=.bl true) fun _ _ _=>False:=by
 refine⟨fun _=>True,[.lst (ns.map PV.int)],Reps.one ⟨a,_,rfl,hS.elim (fun h=>.inl ⟨h,trivial⟩) .inr,ZbC ns⟩,rfl, ?_⟩
 rw[hm]
 exact fun v H' _ r=>r.2
section
variable {X:Cx}{K:W.Frag}{EX:PX->Hp->Prop}{Γ Γ' Γ1 Γ2:List Md}{tb tc:TE}{ta:TA}{fb fc:List PV->Rr PV}{fa:List PV->Rr (List PV)}
theorem Ze5 (hc:X.calm=true) (e:X.K=K:=by rfl):JJ X (.builtin "min") (Zk0 K):=by subst e;exact Zgt hc
theorem ZlE:bootBuiltins "max"=some (.builtin "max"):=by decide +kernel
noncomputable def ZgZ (xs:List PV):Rr PV:=match xs with
 |[.int i,.int j]=>.ok (.int (if j>i then j else i))
 |_=>.bad
theorem Zj9 (ha:DAA K EX Γ Γ' ta fa):DE K EX Γ Γ' .P (tCB (fun xs H Q=>∃i j,xs=[.int i,.int j]/\Q (.int (if j>i then j else i)) H) ta) (fun ρ=>(fa ρ).bind ZgZ):=by
 refine Ze2 (fun {H xs vs Q} h z e=>?_) (fun xs e h=>?_) ha
 ·unfold ZgZ at e
  split at e<;>first|(cases e;done)|skip
  cases e
  obtain⟨v,w,rfl,h1,h2⟩:=Zkx h
  cases h1;cases h2
  exact⟨rfl,fun q=>⟨_,_,rfl,q _ rfl⟩⟩
 ·unfold ZgZ at h;split at h<;>cases h
theorem ZiY (hu:X.A.units+64<cLine) (e:X.K=K:=by rfl):OpR X (compareOp .Lt) (ZiI K HT.ZD):=by subst e;exact ZkQ (by omega)
noncomputable def ZjT (x y:PV):Rr PV:=match x,y with
 |.lst xs,.lst ys=>match Uc xs,Uc ys with
  |some ns,some ms=>.ok (.bl (HT.ZD ns ms))
  |_,_=>.bad
 |_,_=>.bad
theorem Zl6 (ha:DE K EX Γ Γ1 .A tb fb) (hb:DE K EX Γ1 Γ2 .A tc fc):DE K EX Γ Γ2 .P (tOp (ZiI K HT.ZD) tb tc) (fun ρ=>(fb ρ).bind fun x=>(fc ρ).bind fun y=>ZjT x y):=by
 refine Zge (fun {H x y v w Q} rx ry ⟨z,e,q⟩=>?_) (fun x y z h=>?_) (fun x y e h=>?_) ha hb
 ·unfold ZjT at e
  split at e
  ·split at e
   ·rename_i ns ms h1 h2
    cases e
    rw[U6 h1] at rx
    rw[U6 h2] at ry
    obtain⟨a,rfl,h3⟩:=Qm rx
    obtain⟨b,rfl,h4⟩:=Qm ry
    exact⟨a,b,ns,ms,rfl,rfl,h3,h4,q rfl _ rfl⟩
   ·cases e
  ·cases e
 ·unfold ZjT at h
  split at h
  ·split at h
   ·cases h;rfl
   ·cases h
  ·cases h
 ·unfold ZjT at h
  split at h
  ·split at h<;>cases h
  ·cases h
end
def RS.good (r:RS) (I:List PV->Prop):Prop:=match r with
 |.next ρ=>I ρ
 |.cont ρ=>I ρ
 |_=>False
theorem RS.good_ex {r:RS}{I:List PV->Prop} (h:r.good I):∃ρ',(r=.next ρ'\/r=.cont ρ')/\I ρ':=by
 cases r with
 |next ρ=>exact⟨ρ,.inl rfl,h⟩
 |cont ρ=>exact⟨ρ,.inr rfl,h⟩
 |ret x=>exact h.elim
 |brk ρ=>exact h.elim
 |exc e=>exact h.elim
 |bad=>exact h.elim
theorem ZdF {b:PV->List PV->RS}{xs:List PV}{ρ:List PV} (I:Nat->List PV->Prop) (h0:I 0 ρ) (h:∀i x ρ,xs[i]?=some x->I i ρ->(b x ρ).good (I (i+1))) :
  ∃ρ',Uo b xs ρ=.next ρ'/\I xs.length ρ':=by
 have key:∀n i ρ,xs.length=i+n->I i ρ->∃ρ',Uo b (xs.drop i) ρ=.next ρ'/\I xs.length ρ':=by
  intro n
  induction n with
  |zero =>
   intro i ρ hl hI
   rw[ZtE (by omega)]
   exact⟨ρ,rfl,by rw[hl];exact hI⟩
  |succ n ih =>
   intro i ρ hl hI
   have hi:i<xs.length:=by omega
   rw[Zth hi]
   obtain⟨ρ',h1,h2⟩:=RS.good_ex (h i _ ρ (ZsP hi) hI)
   obtain⟨ρ2,h3,h4⟩:=ih (i+1) ρ' (by omega) h2
   refine⟨ρ2, ?_,h4⟩
   simp only[Uo]
   rcases h1 with h1|h1<;>(rw[h1];exact h3)
 exact key xs.length 0 ρ (by omega) h0
theorem JF {lo:Int}{n i:Nat}{x:PV} (h:(Zci lo n)[i]?=some x):i<n/\x=.int (lo+i):=by
 unfold Zci at h
 rw[Ztf] at h
 by_cases hi:i<n
 ·rw[Zud hi] at h;cases h;exact⟨hi,rfl⟩
 ·rw[Zt2 (by simpa using hi)] at h;cases h
@[simp] theorem Jl {lo:Int}{n:Nat}:(Zci lo n).length=n:=by simp[Zci]
theorem ZaN {α β:Type}{f:α->Rr β}{g:α->β}:∀{xs:List α},(∀x∈xs,f x=.ok (g x))->ZdA f xs=.ok (xs.map g)
 |[],_=>rfl
 |x::xs,h=>by
  simp only[ZdA,h x (by simp),Rr.bind_ok,ZaN (xs:=xs) fun y hy=>h y (by simp[hy]),Ztg]
@[simp] theorem Zjn {x:PV}{ρ:List PV}:gv 0 (x::ρ)=x:=rfl
@[simp] theorem Zjo {x:PV}{ρ:List PV}{i:Nat}:gv (i+1) (x::ρ)=gv i ρ:=rfl
theorem Qq {ns:List Int}{k:Int} (h0:0<=k) (h1:k<ns.length):pIx (.lst (ns.map PV.int)) (.int k)=.ok (.int (ns.getD k.toNat 0)):=by
 have:atI (ns.map PV.int) k=some (.int (ns.getD k.toNat 0)):=by
  unfold atI
  rw[ZsV,ZdE h0 h1]
  show (ns.map PV.int)[k.toNat]?=_
  rw[Ztf,ZsP (by omega),ZsO,ZsP (by omega)]
  rfl
 simp only[pIx,this]
theorem QF {ns:List Int}{k y:Int} (h0:0<=k) (h1:k<ns.length):pSet (.lst (ns.map PV.int)) (.int k) (.int y)=.ok (.lst ((ns.set k.toNat y).map PV.int)):=by
 simp only[pSet,ZsV,ZdE h0 h1,List.map_set]
theorem Zb1 {ns:List Int}{y:Int} (h:ns.length<1000000):pApp (.lst (ns.map PV.int)) (.int y)=.ok (.lst ((ns++[y]).map PV.int)):=by
 simp only[pApp,ZsV,if_pos h,ZtI,Ztg,ZuQ]
theorem QI {ns:List Int} (h:ns.length<=1000000):newF (ns.map PV.int)=.ok (.lst (ns.map PV.int)):=by
 unfold newF
 rw[PV.flats_ints,ZsV,decide_eq_true h];rfl
theorem UB (ns:List Int):PV.dats (ns.map PV.int)=ns.map PyData.int:=by
 induction ns with
 |nil=>rfl
 |cons n ns ih=>simp[PV.dats,PV.dat,ih]
theorem ZcJ (ns:List Int):PyData.canLayAll0 (ns.map PyData.int)=true:=by
 induction ns with
 |nil=>rfl
 |cons n ns ih=>simp[PyData.canLayAll0,PyData.canLay0,ih]
theorem Zfz (i:Int):okD (.int i)=true:=by simp[okD,PV.noX,PV.dat,PyData.canLay0,PyData.depth]
theorem Zd2 (ns:List Int):okD (.lst (ns.map PV.int))=true:=by
 have hd:PyData.depthAll (ns.map PyData.int)=0:=by
  induction ns with
  |nil=>rfl
  |cons n ns ih=>simp[PyData.depthAll,PyData.depth,ih]
 simp[okD,PV.noX,PV.noXs_ints,PV.dat,UB,PyData.canLay0,ZcJ,PyData.depth,hd]
theorem Vw:∀(ns ms:List Int),PyData.eqvAll (ns.map PyData.int) (ms.map PyData.int)=decide (ns=ms)
 |[],[]=>by simp[PyData.eqvAll]
 |[],m::ms=>by simp[PyData.eqvAll]
 |n::ns,[]=>by simp[PyData.eqvAll]
 |n::ns,m::ms=>by
  simp only[Ztg,PyData.eqvAll,PyData.eqv,Vw ns ms,List.cons.injEq,Bool.decide_and]
  rw[Bool.beq_eq_decide_eq]
theorem Zhc {g:Bool->Bool} (ns ms:List Int):Zam g (.lst (ns.map PV.int)) (.lst (ms.map PV.int))=.ok (.bl (g (decide (ns=ms)))):=by
 unfold Zam
 rw[Zd2,Zd2]
 simp only[Bool.and_self,if_true,PV.dat,UB,PyData.eqv,Vw]
theorem ZiU {g:Bool->Bool} (i j:Int):Zam g (.int i) (.int j)=.ok (.bl (g (decide (i=j)))):=by
 unfold Zam
 rw[Zfz,Zfz]
 simp only[Bool.and_self,if_true,PV.dat,PyData.eqv]
 rw[Bool.beq_eq_decide_eq]
theorem Zfq (ns:List Int):Zg5 [.lst (ns.map PV.int)]=.ok (.int ns.length):=by simp[Zg5]
theorem Zfl (ns:List Int):Zmr [.lst (ns.map PV.int)]=.ok (.int ns.sum):=by simp[Zmr,Zb0]
theorem Zfp {ns:List Int} (h:ns≠[]):Zmt [.lst (ns.map PV.int)]=.ok (.int (Zct ns)):=by simp[Zmt,Zb0,h]
theorem Zal {ns:List Int} (h:ns.length<=1000000):Zcp [.lst (ns.map PV.int)]=.ok (.lst (ns.map PV.int)):=by
 simp only[Zcp];exact QI h
theorem ZjF {i j:Int} (a b:Nat) (h1:i.natAbs<=10^a) (h2:j.natAbs<=10^b) (ha:a<=4000:=by decide) (hb:b<=4000:=by decide):ZcT i j:=by
 have t:∀c:Nat,c<=4000->(10:Nat)^c<2^60000:=fun c hc=>ZtW (ZuB (by decide) hc) (by decide +kernel)
 exact⟨ZtW h1 (t a ha),ZtW h2 (t b hb)⟩
theorem Zgo {i j:Int} (b:Nat) (h1:0<j) (h2:j.natAbs<=10^b) (hb:b<=2000:=by decide):ZcU i j:=by
 have t:∀c:Nat,c<=2000->(10:Nat)^c<2^9000:=fun c hc=>ZtW (ZuB (by decide) hc) (by decide +kernel)
 exact⟨h1,ZtW h2 (t b hb)⟩
theorem Zfs {i j:Int} (h:ZcU i j):Zmv (.int i) (.int j)=.ok (.int (i/j)):=Zd4 (decide_eq_true h)
theorem Zfo {i j:Int} (h:ZcT i j):Zms (.int i) (.int j)=.ok (.int (i*j)):=Zd4 (decide_eq_true h)
theorem ZaK {i j:Int} (h:0<j):ZmQ (.int i) (.int j)=.ok (.int (i%j)):=Zd4 (decide_eq_true h)
theorem Zco {i j:Int} (h:ZjZ i j):ZkA (.int i) (.int j)=.ok (.int (i^j.toNat)):=Zd4 (decide_eq_true h)
@[simp] theorem ZiV {i j:Int}:Zmw (.int i) (.int j)=.ok (.int (i+j)):=rfl
@[simp] theorem ZiP {i j:Int}:ZmP (.int i) (.int j)=.ok (.int (i-j)):=rfl
@[simp] theorem ZkC {i j:Int}:pLt (.int i) (.int j)=.ok (.bl (decide (i<j))):=rfl
@[simp] theorem ZkD {i j:Int}:pLe (.int i) (.int j)=.ok (.bl (decide (i<=j))):=rfl
@[simp] theorem ZkM {i j:Int}:pGt (.int i) (.int j)=.ok (.bl (decide (j<i))):=rfl
@[simp] theorem ZkO {i j:Int}:pGe (.int i) (.int j)=.ok (.bl (decide (j<=i))):=rfl
@[simp] theorem Zjp {i:Int}:grd (.int i)=.ok (.int i):=rfl
@[simp] theorem ZlH {b:Bool}:asB (.bl b)=.ok b:=rfl
@[simp] theorem ZjH {xs:List PV}:asL (.lst xs)=.ok xs:=rfl
@[simp] theorem ZjI {i:Int}:asI (.int i)=.ok i:=rfl
@[simp] theorem ZkJ {n:String}{x:Int}:ZkK n (.int x)=.ok (.bl (QN (V2 (.int x)) n)):=rfl
@[simp] theorem ZkI {n:String}{x:List PV}:ZkK n (.lst x)=.ok (.bl (QN (V2 (.lst x)) n)):=rfl
@[simp] theorem ZkH {n:String}{x:List PV}:ZkK n (.tup x)=.ok (.bl (QN (V2 (.tup x)) n)):=rfl
@[simp] theorem ZiQ {i:Int}:ZlR (.int i)=.ok (.int (-i)):=rfl
@[simp] theorem ZkF {x:PV}{xs:List PV}:pIx (.tup (x::xs)) (.int 0)=.ok x:=by simp[pIx,atI,ixN]
@[simp] theorem ZkE {x y:PV}{xs:List PV}:pIx (.tup (x::y::xs)) (.int 1)=.ok y:=by
 have:atI (x::y::xs) 1=some y:=by unfold atI;rw[ZdE (by omega) (by simp only[Ztl];omega)];rfl
 simp only[pIx,this]
theorem Zdx {j:Int} (h:-(2^62)<=j/\j<2^62):ZgX [.int j]=.ok (Zci 0 j.toNat):=by simp only[ZgX,okR,decide_eq_true h,if_true]
theorem ZgV {i j:Int} (h:-(2^62)<=i/\i<2^62) (h':-(2^62)<=j/\j<2^62):ZgW [.int i,.int j]=.ok (Zci i (j-i).toNat):=by simp only[ZgW,okR,decide_eq_true h,decide_eq_true h',Bool.and_self,if_true]
theorem ZfA {xs:List PV} (h:xs.length<=1000000):lenM xs=.ok ():=by simp only[lenM,if_pos h]
@[simp] theorem Zhu:QN (V2 (.int i)) "int"=true:=rfl
@[simp] theorem Zhv:QN (V2 (.int i)) "bool"=false:=rfl
@[simp] theorem Zht:QN (V2 (.lst xs)) "list"=true:=rfl
@[simp] theorem Zhs:QN (V2 (.tup xs)) "tuple"=true:=rfl
theorem Vg {I:List PV->Prop}{ρ:List PV} (h:I ρ):(RS.next ρ).good I:=h
theorem Zhy {h:PV->List PV->Rr (List PV)}{hs:List PV->List PV->Rr (List PV)}{x:PV}{xs ρ:List PV}:hdR h hs (x::xs) ρ=(h x ρ).bind fun ρ'=>hs xs ρ':=rfl
theorem Zhl {ρ:List PV}:ZmT [] ρ=.ok ρ:=rfl
theorem Jh {ns ms:List Int} (e:ns.map PV.int=ms.map PV.int):ns=ms:=by
 have:=congrArg Uc e
 simpa using this
theorem Zen {i j:Int} (h0:0<j) (h1:j<1000000000000):Zmv (.int i) (.int j)=.ok (.int (i/j)):=Zfs (Zgo 12 h0 (by omega))
theorem Zmz:ZkA (.int 10) (.int 60)=.ok (.int (10^60)):=by rw[Zco (by decide)];rfl
theorem ZkS {xs:List PV} (h:xs.length<=1000):mkT xs=.ok (.tup xs):=if_pos h
theorem ZkT {xs:List PV} (h:xs.length<=1000):mkL xs=.ok (.lst xs):=if_pos h
noncomputable def KD {α:Type}:Sem α->Prop
 |.pure _=>True
 |.raise _=>True
 |.unsupported _=>True
 |.finish _=>True
 |.rule _ k=>KD (k ())
 |.at _ k=>KD (k ())
 |.load _ _ k=>∀o,KD (k o)
 |.update _ _ f k=>(∀o:Obj,(f o).dict=o.dict/\(o.isFreed=false->(f o).isFreed=false))/\KD (k ())
 |.alloc _ k=>∀a,KD (k a)
 |.loadIfAlive _ k=>∀o,KD (k o)
 |.point _ k=>KD (k ())
 |.register _ _=>True
 |.fresh k=>∀t,KD (k t)
 |.ask k=>∀x,KD (k x)
 |.choose _ _ k=>∀n,KD (k n)
 |.os _ _ k=>∀r,KD (k r)
 |.call _ _ _ _ _=>False
 |.handled _ k=>∀x,KD (k x)
 |.newGen _ k=>∀g,KD (k g)
 |.genState _ k=>∀x,KD (k x)
 |.resume _ _ _ _=>False
 |.yield _ _ _ _=>True
 |.stack k=>∀x,KD (k x)
 |.fork _ _=>True
 |.thread k=>∀x,KD (k x)
 |.await _ _ _ _ _=>True
def DK (h h':Heap):Prop:=∀b o,h.get? b=some o->∃o',h'.get? b=some o'/\o'.dict=o.dict
theorem DK.refl (h:Heap):DK h h:=fun b o e=>⟨o,e,rfl⟩
theorem DK.trans {h1 h2 h3:Heap} (a:DK h1 h2) (b:DK h2 h3):DK h1 h3:=fun x o e=>by
 obtain⟨o1,e1,d1⟩:=a x o e
 obtain⟨o2,e2,d2⟩:=b x o1 e1
 exact⟨o2,e2,d2.trans d1⟩
theorem Zm3 {M:Model}{Γ:PySem.Ctx}{α:Type}{Q:α->Pos->Shared->Prop}{E:Value->Pos->Shared->Prop}{h0:Heap}:∀(t:Sem α) (p:Pos) (s:Shared),KD t->DK h0 s.heap->Sem.wp M Γ t Q E p s ->
  Sem.wp M Γ t (fun a p' s'=>Q a p' s'/\DK h0 s'.heap) (fun e p' s'=>E e p' s'/\DK h0 s'.heap) p s:=by
 intro t
 induction t with
 |pure a=>intro p s _ d h;exact⟨h,d⟩
 |raise e=>intro p s _ d h;exact⟨h,d⟩
 |unsupported w=>intro p s _ _ h;exact h
 |finish e=>intro p s _ _ h;exact h
 |rule t k ih=>intro p s k d h;exact ih () p s k d h
 |«at» q k ih=>intro p s k d h;exact ih () q s k d h
 |load a q k ih=>intro p s k d h;obtain⟨o,e,h⟩:=h;exact⟨o,e,ih o p s (k o) d h⟩
 |update a q f k ih =>
  intro p s k d h
  refine⟨h.1,ih () p _ k.2 (d.trans fun b o e=>?_) h.2⟩
  by_cases hb:a=b
  ·subst hb
   exact⟨_,Heap.get?_update_self f e ((k.1 o).2 (Heap.get?_some_iff.mp e).2),(k.1 o).1⟩
  ·exact⟨o,(Heap.get?_update_other _ f hb).trans e,rfl⟩
 |alloc o k ih=>intro p s k d h;exact ih _ p _ (k _) (d.trans fun b o' e=>⟨o',Heap.get?_push_of_some _ e,rfl⟩) h
 |loadIfAlive a k ih=>intro p s k d h;exact ih _ p s (k _) d h
 |point l k ih=>intro p s k d h;exact ih () p s k d h
 |register a k ih=>intro p s _ _ h;exact h
 |fresh k ih=>intro p s k d h;exact ih _ p _ (k _) d h
 |ask k ih=>intro p s k d h;exact ih _ p _ (k _) d h
 |choose a n k ih=>intro p s k d h;exact⟨h.1,ih _ p _ (k _) d h.2⟩
 |os q l k ih=>intro p s k d h;exact ih _ p _ (k _) d h
 |call c h g l k ih=>intro p s k d h;exact k.elim
 |handled o k ih=>intro p s k d h;exact ih _ p _ (k _) d h
 |newGen c k ih=>intro p s k d h;exact ih _ p _ (k _) d h
 |genState g k ih=>intro p s k d h;obtain⟨st,e,h⟩:=h;exact⟨st,e,ih _ p s (k _) d h⟩
 |resume g r l k ih=>intro p s k d h;exact k.elim
 |yield v g l k ih=>intro p s _ _ h;exact h
 |stack k ih=>intro p s k d h;exact ih _ p _ (k _) d h
 |fork c k ih=>intro p s _ _ h;exact h
 |thread k ih=>intro p s k d h;exact ih _ p _ (k _) d h
 |await a t d l k ih=>intro p s _ _ h;exact h
theorem Zil {M:Model}{A:Around}{α:Type}{t:Sem α}{Q:α->Shared->Prop}{E:Value->Shared->Prop}{s:Shared} (k:KD t) (h:wpAny M A t Q E s):wpAny M A t (fun a s'=>Q a s'/\DK s.heap s'.heap) (fun e s'=>E e s'/\DK s.heap s'.heap) s:=
 fun Γ p hΓ=>Zm3 t p s k (DK.refl _) (h Γ p hΓ)
theorem ZE {α β:Type}:∀(m:Sem α) {f:α->Sem β},KD m->(∀a,KD (f a))->KD (m >>= f):=by
 intro m f
 show KD m->_->KD (m.bind f)
 induction m with
 |pure a=>intro _ h;exact h a
 |raise e=>intro _ _;trivial
 |unsupported w=>intro _ _;trivial
 |finish e=>intro _ _;trivial
 |rule t k ih=>intro k h;exact ih () k h
 |«at» q k ih=>intro k h;exact ih () k h
 |load a q k ih=>intro k h o;exact ih o (k o) h
 |update a q g k ih=>intro k h;exact⟨k.1,ih () k.2 h⟩
 |alloc o k ih=>intro k h a;exact ih a (k a) h
 |loadIfAlive a k ih=>intro k h o;exact ih o (k o) h
 |point l k ih=>intro k h;exact ih () k h
 |register a k ih=>intro _ _;trivial
 |fresh k ih=>intro k h a;exact ih a (k a) h
 |ask k ih=>intro k h a;exact ih a (k a) h
 |choose a n k ih=>intro k h a;exact ih a (k a) h
 |os q l k ih=>intro k h a;exact ih a (k a) h
 |call c h g l k ih=>intro k h;exact k.elim
 |handled o k ih=>intro k h a;exact ih a (k a) h
 |newGen c k ih=>intro k h a;exact ih a (k a) h
 |genState g k ih=>intro k h a;exact ih a (k a) h
 |resume g r l k ih=>intro k h;exact k.elim
 |yield v g l k ih=>intro _ _;trivial
 |stack k ih=>intro k h a;exact ih a (k a) h
 |fork c k ih=>intro _ _;trivial
 |thread k ih=>intro k h a;exact ih a (k a) h
 |await a t d l k ih=>intro _ _;trivial
theorem Ja {α:Type}{a:α}:KD (pure a:Sem α):=trivial
theorem Zac {α:Type}{w:String}:KD (unsupported w:Sem α):=trivial
theorem Zcz {a:Addr}:KD (load a):=fun _=>trivial
theorem Zld (g:Array Value->Array Value) (o:Obj):(Obj.mapFields g o).dict=o.dict/\(o.isFreed=false->(Obj.mapFields g o).isFreed=false):=by
 obtain⟨c,d,dt,sl⟩:=o
 cases dt<;>exact⟨rfl,fun h=>h⟩
theorem Zc1 (v:Value):KD (fieldsOf v):=by
 unfold fieldsOf
 cases v<;>try exact Zac
 refine ZE _ Zcz fun o=>?_
 cases o.data<;>first|exact Ja|exact Zac
theorem Qu (v:Value) (i:Nat):KD (field v i):=by
 unfold field
 refine ZE _ (Zc1 v) fun vs=>?_
 cases vs[i]?<;>first|exact Ja|exact Zac
theorem Ui (v:Value) (i:Nat) (x:Value):KD (setField v i x):=by
 unfold setField
 cases v<;>try exact Zac
 unfold updateField
 refine ZE _ Zcz fun o=>?_
 cases o.data<;>try exact Zac
 dsimp only
 split
 ·exact⟨fun o=>Zld _ o,trivial⟩
 ·exact Zac
theorem Zb8 (e:Value) (f:Option Addr):KD (setFlight e f):=by
 unfold setFlight
 refine ZE _ (Qu e 1) fun tb=>?_
 split
 ·exact Ui _ _ _
 ·exact Ja
theorem Zb9 (ty:String) (vs:List Value):KD (newFields ty vs):=by
 unfold newFields newObj newObjAsIs
 dsimp only
 have al:∀(o:Obj),KD (alloc o):=fun _ _=>trivial
 split
 ·exact ZE _ Zac fun _=>ZE _ (al _) fun _=>Ja
 ·exact ZE _ (al _) fun _=>Ja
theorem ZfF (env:Env) (outer:List Env):KD (behindIsImport env outer):=by
 unfold behindIsImport
 split
 ·exact Ja
 ·split
  ·exact Ja
  ·exact ZE _ (Qu _ _) fun _=>Ja
theorem Zc0 (env:Env) (i:Bool) (outer:List Env):KD (keptBack env i outer):=by
 cases outer with
 |nil =>
  have u:KD underTheClaimsCaller:=by
   unfold underTheClaimsCaller
   exact ZE _ (show KD stack from fun _=>trivial) fun _=>Ja
  rw[keptBack]
  split
  ·exact Ja
  ·exact ZE _ u fun _=>Ja
 |cons c r=>unfold keptBack;exact Ja
theorem Zhp {o:Obj}{sl:Array (Option Value)}:({ o with slots:=sl }:Obj).dict=o.dict/\(o.isFreed=false->({ o with slots:=sl }:Obj).isFreed=false):=by
 obtain⟨c,d,dt,s⟩:=o
 cases dt<;>exact⟨rfl,fun h=>h⟩
theorem ZdD:∀(l:List Env),KD (readyFrames l)
 |[]=>trivial
 |env::outer=>by
  unfold readyFrames
  cases env.frame with
  |none=>exact Zac
  |some f =>
   dsimp only
   refine ZE _ Zcz fun o=>?_
   split
   ·exact Ja
   ·refine ZE _ (ZfF _ _) fun _=>ZE _ (Zc0 _ _ _) fun _=>ZE _ ⟨fun o=>Zhp,trivial⟩ fun _=>ZdD outer
theorem Zev (env:Env):KD (PySem.frameOf env):=by
 unfold PySem.frameOf
 refine ZE _ ?_ fun l=>ZE _ ?_ fun r=>?_
 ·unfold frameEnvs
  exact ZE _ (fun _=>trivial) fun _=>Ja
 ·cases (List.dropWhile (fun x=>x.frame != env.frame) l) with
  |nil=>exact Ja
  |cons a r=>exact ZE _ (ZdD _) fun _=>Ja
 ·cases r<;>first|exact Ja|exact Zac
theorem Zhq (f:Addr) (b:Bool):KD (entryPlaceOf f b):=by
 unfold entryPlaceOf
 refine ZE _ (show KD stack from fun _=>trivial) fun acts=>?_
 split<;>exact Ja
theorem Zjj (e:Value) (env:Env):KD (noteFrame e env):=by
 unfold noteFrame
 cases env.frame with
 |none=>exact Zac
 |some f =>
  dsimp only
  refine ZE _ (Qu _ _) fun head=>?_
  have tail:∀(hd:Bool),KD (do setField e 1 (<- EntryCells.newEntry head (<- PySem.frameOf env) .none (rawInt f) .none (<- entryPlaceOf f hd))):=fun hd =>
   ZE _ (Zev env) fun _=>ZE _ (Zhq _ _) fun _=>ZE _ (Zb9 _ _) fun _=>Ui _ _ _
  split
  ·refine ZE _ (Qu _ _) fun x=>?_
   split
   ·exact Ja
   ·exact ZE _ (Ui _ _ _) fun _=>tail _
  ·exact tail _
theorem Zar (env:Env) (e:Value):KD (leaving env e):=ZE _ (Zjj e env) fun _=>Zb8 e none
theorem JI.there {P:Program}{w:World}{H:Hp}{h:Heap}{a:Addr}{o:HO} (x:JI P w H h a o):∃u,h.get? a=some u:=by
 cases o with
 |lst xs=>obtain⟨_,_,_,_,e⟩:=x;exact⟨_,e⟩
 |tup xs=>obtain⟨_,_,_,_,e,_⟩:=x;exact⟨_,e⟩
 |dK kvs=>obtain⟨_,_,_,_,o,_,_,e,_⟩:=x;exact⟨_,e⟩
 |dT kvs=>obtain⟨_,_,_,_,o,_,_,e,_⟩:=x;exact⟨_,e⟩
 |set S n=>obtain⟨o,_,_,_,e,_⟩:=x;exact⟨_,e⟩
 |ins C dx fs=>obtain⟨_,_,_,e,_⟩:=x;exact⟨_,e⟩
 |own y=>obtain⟨_,e⟩:=x;exact⟨_,e⟩
 |xd fs=>obtain⟨_,⟨_,_,_,e,_⟩,_⟩:=x;exact⟨_,e⟩
 |rng lo hi=>obtain⟨_,_,_,e⟩:=x;exact⟨_,e⟩
 |frz ob u=>exact⟨_,x.1⟩
 |tbl ps=>exact⟨_,x⟩
 |met f y=>exact⟨_,x⟩
 |ext φ=>exact x.2.1
def ZlY (H:Hp) (ea k:Addr) (o:Obj):Prop:=(o.dict=none/\k=ea)\/(o.dict=some k/\∃fs,H k=some (.xd fs))
structure Fly (P:Program) (w:World) (outer:List Env) (H:Hp) (s:Shared) (ea k:Addr) (cls:Value) (H':Hp) (s':Shared):Prop where
 os:s'.os=s.os
 bare:AllBare s'.gens
 un:Un (frs outer) [] H H' s.heap s'.heap
 hok:HOk P w H' s'.heap
 new:H' ea=none
 dict:∃o,s'.heap.get? ea=some o/\ZlY H' ea k o
 fly:∃(Bh:Heap) (t:Addr),Heap.FlyingW Bh outer ea cls (.ref t) s'.heap/\(∀b u,H' b=some u->∀o,s'.heap.get? b=some o->Bh.get? b=some o)/\∀b o,s.heap.get? b=some o->b ∉ frs outer->∃o',Bh.get? b=some o'
noncomputable def CX1 (P:Program) (w:World):CXT:=fun outer H s E e s'=>∃ea k cls H',e=.ref ea/\Fly P w outer H s ea k cls H' s'/\E cls (some k) H'
section
variable {P:Program}{w:World}{K:W.Frag}{mg:Str->Option Value}{base:Heap}{N:List Str}{qual:Str}{scope:Scope}{f:Addr}{cd:Value}{A:Around}{outer:List Env}{s:Shared}{H:Hp}{E:XK}
 {pins:List (Addr×Obj)}{σ:St}{H1 H':Hp}{s1 s':Shared}{g h'' Bh:Heap}{ea k t:Addr}{cls:Value}
theorem ZfR (I:Inv (Zbg (CX1 P w) P w K mg base N qual scope f cd A outer s H E) pins σ H1 s1) (os:s'.os=s1.os) (bare:AllBare s'.gens) (un:Un (s.heap.objs.size::frs outer) [] H1 H' s1.heap g) (hok:HOk P w H' g) (up:g.UpToSlots h'')
  (fl:Heap.FlyingW Bh outer ea cls (.ref t) h'') (st:Bh.StaysIn g) (c1:∀b u,H' b=some u->∀o,g.get? b=some o->Bh.get? b=some o) (c2:∀b o,s.heap.get? b=some o->b ∉ s.heap.objs.size::frs outer->∃o',Bh.get? b=some o')
  (new:H' ea=none) (dn:∃o,g.get? ea=some o/\ZlY H' ea k o) (dk:DK g h''):Fly P w outer H s ea k cls H' { s' with heap:=h'' }:=by
 have neL:∀b o,s.heap.get? b=some o->b≠s.heap.objs.size:=fun b o e=>Zt5 (Heap.lt_size e)
 have nin:∀b o,s.heap.get? b=some o->b ∉ frs outer->b ∉ s.heap.objs.size::frs outer:=fun b o e n z=>(ZsZ.mp z).elim (neL b o e) n
 have b0:Un (frs outer) [] H H1 s.heap s1.heap:=I.base
 have fr0:∀b∈frs outer,H b=none:=I.ok.frf
 have slot:∀b o,s.heap.get? b=some o->H b=none->b∈frs outer->∃sl,h''.get? b=some { o with slots:=sl }:=fun b o q n hb=>by
  obtain⟨s2,e1⟩:=b0.slot b o q n hb (by simp)
  obtain⟨s3,e2⟩:=un.slot b _ e1 (b0.free b o q n (by simp)) (Ztx _ hb) (by simp)
  obtain⟨_,o',ho',hnf⟩:=Heap.FunFrames.mem (show s.heap.FunFrames base outer from I.ok.funs) hb
  rw[q] at ho';cases ho'
  obtain⟨s4,e3⟩:=up b _ e2 hnf
  exact⟨s4,e3⟩
 have keepB:∀b o,s.heap.get? b=some o->H b=none->b ∉ frs outer->Bh.get? b=some o:=fun b o q n hb=>by
  have e1:=b0.keep b o q n hb (by simp)
  have e2:=un.keep b o e1 (b0.free b o q n (by simp)) (nin b o q hb) (by simp)
  obtain⟨o',e3⟩:=c2 b o q (nin b o q hb)
  have e4:=st b o' e3
  rw[e2] at e4;cases e4
  exact e3
 have thereB:∀b o,s.heap.get? b=some o->b ∉ frs outer->∃o',Bh.get? b=some o':=fun b o q hb=>by
  exact c2 b o q (nin b o q hb)
 refine⟨os.trans I.os,bare,⟨fun b o q n hb _=>fl.1 b o (keepB b o q n hb),fun b o q n hb _=>slot b o q n hb,fun b o q n _=>?_,fun b o q _=>?_,fun b xs q=>un.tups b xs (b0.tups b xs q),fun b o xs q=>un.frzs b o xs (b0.frzs b o xs q),fun b ps q=>?_⟩,fun b u e=>?_,new,(let ⟨o,e,d⟩:=dn;let ⟨o',e',d'⟩:=dk ea o e;⟨o',e',by unfold ZlY at d ⊢;rw[d'];exact d⟩),Bh,t,fl,fun b u e o q=>?_,thereB⟩
 ·obtain⟨o1,e1⟩:=b0.there b o q (by simp)
  exact un.free b o1 e1 (b0.free b o q n (by simp)) (by simp)
 ·by_cases hb:b∈frs outer
  ·obtain⟨sl,e⟩:=slot b o q (fr0 b hb) hb
   exact⟨_,e⟩
  ·obtain⟨o',e⟩:=thereB b o q hb
   exact⟨o',fl.1 b o' e⟩
 ·obtain⟨m1,e1⟩:=b0.tbls b ps q
  obtain⟨m2,e2⟩:=un.tbls b _ e1
  exact⟨m1++m2,by rw[e2,Array.append_assoc]⟩
 ·refine(hok b u e).stay (fun c v hc q=>?_) (fun _ q=>q) fun _ _ q=>q
  rcases hc with rfl|hc
  ·exact fl.1 c v (c1 c u e v q)
  ·exact fl.1 c v (c1 c _ hc v q)
 ·obtain⟨o1,e1⟩:=(hok b u e).there
  have e2:=c1 b u e o1 e1
  have e3:=fl.1 b o1 e2
  rw[e3] at q;cases q
  exact e2
def ZjP (X:Cx) (E:St->XK):Prop:=∀(pins:List (Addr×Obj)) (σ:St) (H:Hp) (s:Shared) (e:Value) (s':Shared),Inv X pins σ H s->CX1 X.prog X.w X.stack H s (E σ) e s'->X.xe e s'
def ZlL (X:Cx) (E:St->XK):Prop:=∀(pins:List (Addr×Obj)) (σ:St) (H:Hp) (s:Shared) (h':Heap) (ea:Addr) (cls:Value) (args:List Value),Inv X pins σ H s->Heap.MadeExcOf s.heap h' ea cls args->E σ cls (some ea) H->X.xe (.ref ea) { s with heap:=h' }
theorem ZaJ:ZjP (Zbg (CX1 P w) P w K mg base N qual scope f cd A outer s H E) (fun _=>E):=fun pins σ H1 s1 e s' I hq=>by
 obtain⟨ea,k,cls,H',rfl,F,hE⟩:=hq
 obtain⟨Bh,t,fl,c1,c2⟩:=F.fly
 refine wpAny_mono (Zil (Zar _ _) (wpAny_leaves_onW (Q:=fun _ s''=>∃h'',s''={ s' with heap:=h'' }/\Heap.FlyingW Bh outer ea cls (.ref t) h''/\s'.heap.UpToSlots h'') I.ok.frames rfl fl fun h'' fl'' up=>⟨h'',rfl,fl'',up⟩)) (fun _ s'' q=>?_) fun _ _ q=>q.1
 obtain⟨⟨h'',rfl,fl'',up⟩,dk⟩:=q
 exact⟨ea,k,cls,H',rfl,ZfR I F.os F.bare F.un F.hok up fl'' fl.1 c1 (fun b o e n=>let ⟨o1,e1⟩:=(show Un (frs outer) [] H H1 s.heap s1.heap from I.base).there b o e (by simp);c2 b o1 e1 n) F.new F.dict dk,hE⟩
theorem Zcx:ZlL (Zbg (CX1 P w) P w K mg base N qual scope f cd A outer s H E) (fun _=>E):=fun pins σ H1 s1 h' ea cls args I hx hE=>by
 have hin:∀env∈(Zbg (CX1 P w) P w K mg base N qual scope f cd A outer s H E).stack,∀b,env.frame=some b->b∈frs (Zbg (CX1 P w) P w K mg base N qual scope f cd A outer s H E).stack:=fun env he b hb=>ZuP.mpr ⟨env,he,hb⟩
 have trk:∀b u,H1 b=some u->b ∉ frs (Zbg (CX1 P w) P w K mg base N qual scope f cd A outer s H E).stack:=fun b u e z=>by rw[I.stkFree b z] at e;cases e
 have new:H1 ea=none:=by
  cases q:H1 ea with
  |none=>rfl
  |some u=>obtain⟨o,e⟩:=(I.hok ea u q).there;rw[hx.new] at e;cases e
 refine wpAny_mono (Zil (Zar _ _) (wpAny_leaves_madeW (Q:=fun _ s''=>∃h'' t,s''={ s1 with heap:=h'' }/\Heap.FlyingW (PySem.W.hideAll s1.heap (frs (Zbg (CX1 P w) P w K mg base N qual scope f cd A outer s H E).stack)) outer ea cls (.ref t) h''/\h'.UpToSlots h'')
  (base:=PySem.W.hideAll s1.heap (frs (Zbg (CX1 P w) P w K mg base N qual scope f cd A outer s H E).stack)) (h:=s1.heap) I.ok.frames rfl (fun b o q=>PySem.W.of_hideAll _ q) (PySem.W.funFrames_hide I.stack hin) hx fun h'' t fl _ _ up=>⟨h'',t,rfl,fl,up⟩)) (fun _ s'' q=>?_) fun _ _ q=>q.1
 obtain⟨⟨h'',t,rfl,fl,up⟩,dk⟩:=q
 have dn:∃o,h'.get? ea=some o/\ZlY H1 ea ea o:=by obtain⟨t,e,_⟩:=hx.there;exact⟨_,e,.inl ⟨rfl,rfl⟩⟩
 refine⟨ea,ea,cls,H1,rfl,ZfR (g:=h') (t:=t) (s':={ s1 with heap:=h' }) I rfl I.bare (Un.kept hx.keeps) (I.hok.kept hx.keeps) up fl (fun b o q=>hx.keeps b o (PySem.W.of_hideAll _ q)) (fun b u e o q=>?_) (fun b o q n=>let ⟨o1,e1⟩:=(show Un (frs outer) [] H H1 s.heap s1.heap from I.base).there b o q (by simp);⟨o1,PySem.W.hideAll_get _ e1 n⟩) new dn dk,hE⟩
 obtain⟨o1,e1⟩:=(I.hok b u e).there
 have e2:=hx.keeps b o1 e1
 rw[q] at e2;cases e2
 exact PySem.W.hideAll_get _ e1 (trk b u e)
end
noncomputable def ZmB:List Value:=[.type "ValueError",.type "Exception",.type "BaseException",.type "object"]
noncomputable def ZhX (C:Addr) (E:St->XK) (ta:TA):TS:=fun D σ H=>ta σ H fun vs H1=>vs.length<=1000/\∀ea,H1 ea=none->E σ (.ref C) (some ea) H1
theorem Zjw {K:W.Frag}{h₀:Heap}{C:Addr}{bmB:List Value}{newId:String} (X:K.In h₀) (q:PySem.W.excIn K C bmB newId=true) :
  ∃tl N nm qn bs hdct sn sub ab col dd k0 k1 k2 k3 k5 mN,h₀.get? C=some (excClassObj nm qn C N bs tl hdct sn sub ab col dd k0 k1 k2 k3 k5 newId)/\h₀.Ns N mN/\mN "__init__"=none/\OwnTail h₀ bmB tl:=by
 unfold PySem.W.excIn at q
 split at q
 ·rename_i dd cd sl ho
  split at q
  ·rename_i C' bm k0 k1 k2 k3 n k5 hm hs
   simp only[Bool.and_eq_true,beq_iff_eq,Bool.not_eq_true'] at q
   obtain⟨⟨⟨⟨⟨rfl,rfl⟩,hdel⟩,ht⟩,hok⟩,hni⟩:=q
   obtain⟨nm,bs,mro,ns,qn,hd,sn,sub,ab,col,del⟩:=cd
   dsimp only at hm hdel hok hni
   subst hm hdel
   have hsl:sl=#[k0,k1,k2,k3,some (.builtin n),k5]:=by
    obtain⟨l⟩:=sl
    simp only at hs
    rw[hs]
   subst hsl
   exact⟨bm,ns,nm,qn,bs,hd,sn,sub,ab,col,dd,k0,k1,k2,k3,k5,_,X _ _ ho,.of_isNs (PySem.W.isNs_of_in X hok),PySem.W.nsMap_none_of_in X hok hni,PySem.W.tail_of_in X ht⟩
  ·cases q
 ·cases q
section
variable {X:Cx}{E:St->XK}{x:Str}{C:Addr}{np cpos pos:Pos}{e:Expr}{es:List Expr}{ta:TA}
theorem ZaF (hM:ZlL X E) (hq:PySem.W.excIn X.K C ZmB "ValueError.__new__"=true) (hg:Gl X x) (hm:X.mg x=some (.ref C)) (hc:X.calm=true) (ha:PA X (e::es) ta) (hdb:(x==("__debug__":Str))=false:=by decide)
  (he:starEach (e::es) X.env=(false,eval e X.env)::starEach es X.env:=by rfl) (hpl:(backTo cpos (starEach es X.env)).any (·.1)=false:=by rfl) :
  PS X (.Raise (some (.Call (.Name x np) (e::es) [] cpos)) none pos) (ZhX C E ta):=by
 intro pins s σ H D I h
 obtain⟨tl,N,nm,q,bs,hdct,sn,sub,ab,col,dd,k0,k1,k2,k3,k5,mN,hC,hN,hni,T⟩:=Zjw I.ok.mod.kin hq
 refine wpAny_Raise_call_subT (C:=C) (nm:=nm) (q:=q) (N:=N) (bs:=bs) (bm:=tl) (hdct:=hdct) (sn:=sn) (sub:=sub) (ab:=ab) (col:=col) (dd:=dd) (k0:=k0) (k1:=k1) (k2:=k2) (k3:=k3) (k5:=k5)
  PySem.F.excBase_ValueError (mN:=mN) (T.hasType PySem.F.excBase_ValueError.hasBase) (I.ok.hd hc) (by rw[he];show (false || (backTo cpos (starEach es X.env)).any (·.1))=false;rw[hpl];rfl) hni (QM I hg hm ⟨rfl, ?_⟩ hdb)
 have h2:=ha cpos pins s σ H _ I h
 rw[he] at h2 ⊢
 refine Calls.evalArgs_plain (wpAny_mono h2 (fun us s₂ z=>?_) fun _ _ y=>y)
 obtain⟨vs,H1,I1,r,hl,hE⟩:=z
 have hnew:∀{h':Heap}{ea:Addr}{args:List Value},Heap.MadeExcOf s₂.heap h' ea (.ref C) args->H1 ea=none:=fun {h' ea args} hx=>by
  cases q:H1 ea with
  |none=>rfl
  |some u=>obtain⟨o,e⟩:=(I1.hok ea u q).there;rw[hx.new] at e;cases e
 exact⟨rfl,Ztu (by rw[<- r.length];exact hl) (by decide),I1.bk _ _ hC,hN.keeps I1.bk,T.keeps I1.bk,fun h' ea hx=>hM pins σ H1 s₂ h' ea _ _ I1 hx (hE ea (hnew hx))⟩
end
end L2
namespace PySem.W
open PySem PySem.Spec PySem.Calls PyProof.Rows
section
variable {K:Frag}{D:Addr}
noncomputable def exOk (K:Frag) (D:Addr):Bool:=(findIn K (.ref D) "__getattribute__" == some (some (.builtin "BaseException.__getattribute__")))&&(findIn K (.ref D) "__getattr__" == some none)&&(mroIn K D (.type "BaseException")==some true)&&(mroIn K D (.type "object")==some true) &&
 (findIn K (.ref D) "__class__" == some (some (.builtin "object.__class__")))&&(specialIn K (.builtin "object.__class__") "__get__" == some (some (.builtin "getset_descriptor.__get__")))&&(takesIn K (.builtin "object.__class__")==some true)&&(clsIn K D).isSome
end
end PySem.W
namespace L2
open PySem PySem.Spec PyProof.Rows
def OkX (P:Program) (w:World) (K:W.Frag) (mg:Str->Option Value) (base:Heap) (k:Nat) (x:Str) (ps:List Str) (sp:Sp):Prop:=
 ∃f fd,JT P w K mg base (CX1 P w) k f fd ps sp/\mg x=some (.ref f)/\PySem.W.keepIn K (.ref f)=true/\ZbV K fd ps []
theorem Zhj {P:Program}{w:World}{K:W.Frag}{mg:Str->Option Value}{base:Heap}{k:Nat}{x:Str}{st:Stmt}{ps:List Str}{sp:Sp} (d:Dfn K mg x st) (b:Zu x st ps)
  (h:∀{f fd},Fun K x x st f fd->JT P w K mg base (CX1 P w) k f fd ps sp):OkX P w K mg base k x ps sp:=by
 obtain⟨f,fd,F,hm⟩:=d
 exact⟨f,fd,h F,hm,F.kp,F.binds b⟩
section
variable {X:Cx}{k:Nat}{x:Str}{ps:List Str}{sp:Sp}{p pos:Pos}{e:Expr}{es:List Expr}{t:TA}{E:St->XK}
noncomputable def ZeL (sp:Sp) (E:St->XK) (t:TA):TE:=fun σ H Q=>t σ H fun vs H1=>sp vs H1 Q (E σ)
theorem VN (G:OkX X.prog X.w X.K X.mg X.base k x ps sp) (hr:Qc k X.A) (hg:Gl X x) (hx:ZjP X E) (ha:PA X (e::es) t) (hdb:(x==("__debug__":Str))=false:=by decide)
  (he:starEach (e::es) X.env=(false,eval e X.env)::starEach es X.env:=by rfl) (hpl:(backTo pos (starEach es X.env)).any (·.1)=false:=by rfl):PE X (.Call (.Name x p) (e::es) [] pos) (ZeL sp E t):=by
 obtain⟨f,fd,F,hm,hk,hb⟩:=G
 intro pins s σ H Q I h
 refine wpAny_Call_Name_kw (QM I hg hm ?_ hdb)
 refine PySem.W.callWith_K (h₀:=X.base) I.ok.mod.kin hk (thn (ha pos pins s σ H _ I h) fun us s1 ⟨vs,H1,I1,r,q⟩=>⟨I1.kIn, ?_⟩) he hpl
 have hl:(us++[]).length=ps.length:=by rw[ZtS,<- r.length];exact F.len _ _ _ _ q
 have hb':=hb s1 us I1.kIn hl
 rw[ZtS] at hb'
 refine wpAny_call (codeAny_mono (F.run X.A X.stack s1 H1 ⟨us,[]⟩ us vs Q (E σ) hr I1.env0 hb' r q) fun r s' hq=>?_)
 cases r with
 |error e=>exact hx pins σ H1 s1 e s' I1 hq
 |ok fl =>
  cases fl with
  |ret u=>exact I1.after hq
  |next=>exact False.elim hq
  |brk=>exact False.elim hq
  |cont=>exact False.elim hq
end
noncomputable def Znx:PV->Hp->Addr->Prop
 |.non,H,k=>H k=none
 |.int i,H,k=>∃fs,H k=some (.xd fs)/\fs=[(("at":Str),V.int i)]
 |_,_,_=>False
def W1 (K:W.Frag):PX->XK->Hp->Prop:=fun e E H'=>∀C k,ZjN K e.1 C->Znx e.2 H' k->E (.ref C) (some k) H'
section
variable {P:Program}{w:World}{K:W.Frag}{mg:Str->Option Value}{base:Heap}
theorem Fun.okX {x qual:Str}{st:Stmt}{f:Addr}{fd:FuncData}{N ps:List Str}{k n l:Nat}{kd:Kd}{m:List PV->Rr PV} (F:Fun K x qual st f fd) (S:Zx N ps (Zg st)) (hn:ps.length=n) (hl:N.length-n=l)
  (hbody:∀(cdv:Value) (A:Around) (outer:List Env) (s:Shared) (H:Hp) (E:XK),Qc k (A.deeper (envOfC qual (Zg st) s.heap.objs.size f cdv)) ->
   ∃t g Y,Y.r=kd/\PSs (Zbg (CX1 P w) P w K mg base N qual (Zg st) f cdv A outer s H E) (Zt st) t/\DS K (fun e H'=>W1 K e E H') (List.replicate n .S++List.replicate l .U) Y t g/\∀xs,Ref (m xs) (g (xs++List.replicate l .non)).out) (hkN:kd≠.N:=by nofun) :
  JT P w K mg base (CX1 P w) (k+1) f fd ps (spF K n kd (W1 K) m):=by
 obtain⟨oc,od,kV,doc,pm,an,cdv,ct,osl,rfl,lk,hcd⟩:=F.ex
 refine Zlq lk hcd S (fun vs H Q E h=>?_) fun A outer s H vs Q E hr h=>?_
 ·obtain⟨B,xs,h1,h2,_⟩:=h
  rw[h1.length,h2,hn]
 ·obtain⟨B,xs,h1,h2,dn⟩:=h
  obtain⟨t,g,Y,hY,ht,hd,href⟩:=hbody cdv A outer s H E hr
  refine⟨t,ht, ?_⟩
  have A0:=Ag.init (n:=l) h1
  have est:VY N vs=vs.map some++List.replicate l none:=by
   unfold VY
   rw[h1.length,h2,hl]
  rw[est]
  rw[h2] at A0
  refine hd _ H H _ _ _ _ A0 ?_
  have hdn:Dn (g (xs++List.replicate l .non)).out (fun x=>∀v H',Zw H H'->Zg8 K B H kd x v H'->Q v H') (fun e=>∀H',Zw H H'->W1 K e E H'):=by
   rcases href xs with e|e
   ·rw[e] at dn;exact dn.elim
   ·rw[<- e];exact dn
  have retK:∀{x v H'},Zg8 K (fun a=>B a\/H a=none) H kd x v H'->Zg8 K B H kd x v H':=fun {x v H'} h=>by
   cases kd with
   |P=>exact h
   |F=>exact h
   |T=>exact Rep.mono (fun a us s r=>⟨r,s.elim id .inr⟩) (fun a us r=>r) h
   |Z=>exact Rep.mono (fun a us s r=>⟨r,s.elim id .inr⟩) (fun a us r=>r) h
   |A=>exact Rep.mono (fun a us s r=>⟨r,s.elim id .inr⟩) (fun a us r=>r) h
   |N=>exact h
  cases e:g (xs++List.replicate l .non) with
  |next ρ =>
   rw[e] at hdn
   refine fun σ' H' F' fr A'=>hdn .non H' A'.same ?_
   cases kd with
   |P=>exact⟨rfl,rfl⟩
   |F=>exact⟨[],⟨rfl,rfl⟩,by simp⟩
   |T=>exact rfl
   |Z=>exact rfl
   |A=>exact rfl
   |N=>exact absurd rfl hkN
  |ret x=>rw[e] at hdn;exact fun v H' s r=>hdn v H' s (retK (hY▸r))
  |exc q=>rw[e] at hdn;exact fun H' s=>hdn H' s
  |brk ρ=>rw[e] at hdn;exact hdn.elim
  |cont ρ=>rw[e] at hdn;exact hdn.elim
  |bad=>rw[e] at hdn;exact hdn.elim
end
section
variable {K:W.Frag}{n:Nat}{m:List PV->Rr PV}{ta:TA}{Γ Γ':List Md}{fa:List PV->Rr (List PV)}{E:XK}
noncomputable abbrev EX1 (K:W.Frag) (E:XK):PX->Hp->Prop:=fun e H'=>W1 K e E H'
theorem ZlV (hn:Len fa n) (ha:DAA K (EX1 K E) Γ Γ' ta fa):DE K (EX1 K E) Γ Γ' .P (ZeL (spF K n .P (W1 K) m) (fun _=>E) ta) (fun ρ=>(fa ρ).bind m):=ZdN (E:=E) (W:=W1 K) (fun σ H Q h=>h) (fun e H' h=>h) hn ha
theorem Zna {EX:PX->Hp->Prop} (hn:Len fa n) (hm:∀xs q,m xs≠.exc q) (ha:DAA K EX Γ Γ' ta fa):DE K EX Γ Γ' .F (UV (spF K n .F W0 m) ta) (fun ρ=>(fa ρ).bind m):=fun B H0 H σ ρ F R Q A d=>by
 refine ha B H0 H σ ρ F R _ A (d.bind.imp (fun xs hx d vs H1 F1 s1 f1 p1 A1=>?_) fun e q=>q)
 refine⟨fun _=>True,xs,p1,hn ρ xs hx, ?_⟩
 cases e:m xs with
 |ok x =>
  rw[e] at d
  intro v H2 s2 r
  obtain⟨G,r1,r2⟩:=r
  exact d v H2 (s1.trans s2) ⟨F1,f1,G,r1,fun a ha=>⟨(A1.fresh (r2 a ha)).1,.inl (s1.free (r2 a ha))⟩,A1.more s2 r2 r1.alive⟩
 |exc q=>exact(hm xs q e).elim
 |bad=>rw[e] at d;exact d.elim
theorem ZmZ {EX:PX->Hp->Prop} (hn:Len fa n) (hm:∀xs q,m xs≠.exc q) (ha:DAA K EX Γ Γ' ta fa):DE K EX Γ Γ' .P (UV (spF K n .P W0 m) ta) (fun ρ=>(fa ρ).bind m):=fun B H0 H σ ρ F R Q A d=>by
 refine ha B H0 H σ ρ F R _ A (d.bind.imp (fun xs hx d vs H1 F1 s1 f1 p1 A1=>?_) fun e q=>q)
 refine⟨fun _=>True,xs,p1,hn ρ xs hx, ?_⟩
 cases e:m xs with
 |ok x=>rw[e] at d;exact fun v H2 s2 r=>d v H2 (s1.trans s2) ⟨F1,f1,r.1,r.2,A1.grow s2⟩
 |exc q=>exact(hm xs q e).elim
 |bad=>rw[e] at d;exact d.elim
def Pm.calm (m:Pm):Prop:=∀a q,m.out a≠.exc q
theorem Pm.calm_fn {m:Pm} (h:m.calm) (xs:List PV) (q:PX):m.fn xs≠.exc q:=by
 unfold Pm.fn
 by_cases hx:∃a,m.enc a=xs/\m.pre a
 ·rw[dif_pos hx];exact h _ q
 ·rw[dif_neg hx];exact fun z=>by cases z
theorem ZaS {C:Addr}{x:Str}{Y:Tys} (hC:ZjN K x C) (hn:Len fa n) (hl:n<=1000) (ha:DAA K (EX1 K E) Γ Γ' ta fa):DS K (EX1 K E) Γ Y (ZhX C (fun _=>E) ta) (fun ρ=>(fa ρ).thenS fun _=>.exc (x,.non)):=fun B H0 H σ ρ F D A d=>by
 refine ha B H0 H σ ρ F [] _ A (d.thenS.imp (fun xs hx d vs H1 F1 s1 f1 p1 A1=>?_) fun e q=>q)
 exact⟨by rw[p1.length,hn ρ xs hx];exact hl,fun ea hea=>d H1 A1.same C ea hC hea⟩
end
theorem PS.nox {X:Cx}{st:Stmt}{t:TS} (h:PS X.nox st t):PS X st t:=fun pins s σ H D I hw =>
 wpAny_mono (h pins s σ H D (I.wish _) hw) (fun _ _ q=>q.unwish) fun _ _ z=>False.elim z
section
end
noncomputable def Zni (K:W.Frag) (n:Str):Bool:=match PySem.W.nsIn K mainGlobals n with
 |some (some (.ref C))=>PySem.W.exOk K C&&(PySem.W.kitOne K (.type "NoneType") (.ref C)==some false)&&(PySem.W.kitOne K (.ref C) (.type "ValueError")==some true)
 |_=>false
noncomputable def Znh (K:W.Frag) (q:Str×Str×Bool):Bool:=match PySem.W.nsIn K mainGlobals q.1,PySem.W.nsIn K mainGlobals q.2.1 with
 |some (some (.ref D)),some (some (.ref C))=>(PySem.W.kitOne K (.ref D) (.ref C)==some q.2.2)&&(PySem.W.exmOne K (.ref D) (.ref C)==some q.2.2)
 |_,_=>false
noncomputable def ZmK (K:W.Frag) (ns:List Str) (ss:List (Str×Str×Bool)):Bool:=(PySem.W.kitOne K (.type "NoneType") (.type "ValueError")==some false)&&(ns.all (Zni K)&&ss.all (Znh K))
section
variable {K:W.Frag}{ns:List Str}{n:Str}
noncomputable def Ziz (K:W.Frag) (ns:List Str):Bool:=ns.all fun n=>match PySem.W.nsIn K mainGlobals n with
 |some (some (.ref C))=>PySem.W.excIn K C ZmB "ValueError.__new__"
 |_=>false
theorem Za4 (h:Ziz K ns=true) (hn:n∈ns):∃C,ZjN K n C/\PySem.W.excIn K C ZmB "ValueError.__new__"=true:=by
 have:=ZtD.mp h n hn
 split at this
 ·rename_i C e
  exact⟨C,e,this⟩
 ·cases this
end
theorem Zfk {X:Cx}:ZjP X (fun _=>E0):=fun _ _ _ _ _ _ _ h=>by obtain⟨_,_,_,_,_,_,q⟩:=h;exact q.elim
section
variable {K:W.Frag}{n:Nat}{m:List PV->Rr PV}{ta:TA}{Γ Γ':List Md}{fa:List PV->Rr (List PV)}
theorem ZmY (hn:Len fa n) (ha:DAA K X0 Γ Γ' ta fa):DE K X0 Γ Γ' .F (ZeL (spF K n .F (W1 K) m) (fun _=>E0) ta) (fun ρ=>(fa ρ).bind m):=ZdO (E:=E0) (W:=W1 K) (fun σ H Q h=>h) (fun e H' h=>h.elim) hn ha
end
theorem Zfy {x:Str} (h:PyData.canLay0 (.str x)=true):okD (.str x)=true:=by simp[okD,PV.noX,PV.dat,PyData.depth,h]
theorem ZiT {g:Bool->Bool}{a b:Str} (ha:PyData.canLay0 (.str a)=true) (hb:PyData.canLay0 (.str b)=true):Zam g (.str a) (.str b)=.ok (.bl (g (a==b))):=by
 unfold Zam
 rw[Zfy ha,Zfy hb]
 simp only[Bool.and_self,if_true,PV.dat,PyData.eqv]
theorem ZhM:bootBuiltins "range"=some (.type "range"):=by decide +kernel
section
end
theorem Jb {ns ms:List Int}:ns.map PV.int=ms.map PV.int ↔ ns=ms:=⟨Jh,fun h=>by rw[h]⟩
noncomputable def orX (o:Option Str) (x:PV):Rr PV:=match o with
 |none=>.ok x
 |some n=>.exc (n,.non)
theorem ZF {b:PV->List PV->RS}{xs:List PV}{ρ:List PV}{W:RS} (hw:Uo b xs ρ=W) (I:Nat->List PV->Prop) (h0:I 0 ρ) (h:∀i x ρ,xs[i]?=some x->I i ρ->(b x ρ).good (I (i+1))) :
  ∃ρ',W=.next ρ'/\I xs.length ρ':=by
 obtain⟨ρ',h1,h2⟩:=ZdF I h0 h
 exact⟨ρ',hw.symm.trans h1,h2⟩
theorem Qz {c:List PV->Rr Bool}{b:List PV->RS}{ρ:List PV}{W:RS} (hw:Us c b ρ=W) (N:Nat) (I:Nat->List PV->Prop) (h0:I 0 ρ) (hs:∀i ρ,i<N->I i ρ->c ρ=.ok true/\(b ρ).good (I (i+1))) (he:∀ρ,I N ρ->c ρ=.ok false) :
  ∃ρ',W=.next ρ'/\I N ρ':=by
 subst hw
 have key:∀m i ρ,N=i+m->I i ρ->∃ρ',V6 c b (m+1) ρ=some (.next ρ')/\I N ρ':=by
  intro m
  induction m with
  |zero =>
   intro i ρ hl hI
   obtain rfl:N=i:=by omega
   refine⟨ρ, ?_,hI⟩
   unfold V6
   rw[he ρ hI]
  |succ m ih =>
   intro i ρ hl hI
   obtain⟨h1,h2⟩:=hs i ρ (by omega) hI
   obtain⟨ρ',h3,h4⟩:=RS.good_ex h2
   obtain⟨ρ2,h5,h6⟩:=ih (i+1) ρ' (by omega) h4
   refine⟨ρ2, ?_,h6⟩
   unfold V6
   rw[h1]
   rcases h3 with h3|h3<;>(rw[h3];exact h5)
 obtain⟨ρ',h1,h2⟩:=key N 0 ρ (by omega) h0
 exact⟨ρ',Zbi h1,h2⟩
theorem Zhm {f:PV->Rr PV}{g:Int->Int}{ns:List Int} (h:∀z∈ns,f (.int z)=.ok (.int (g z))):ZdA f (ns.map PV.int)=.ok ((ns.map g).map PV.int):=by
 induction ns with
 |nil=>rfl
 |cons n ns ih =>
  simp only[Ztg,ZdA,h n (by simp),Rr.bind_ok,ih fun z hz=>h z (by simp[hz])]
theorem Zjd {f:PV->Rr PV}{g:Int->Bool}{ns:List Int} (h:∀z∈ns,f (.int z)=.ok (.bl (g z))):ZdA f (ns.map PV.int)=.ok ((ns.map g).map PV.bl):=by
 induction ns with
 |nil=>rfl
 |cons n ns ih =>
  simp only[Ztg,ZdA,h n (by simp),Rr.bind_ok,ih fun z hz=>h z (by simp[hz])]
theorem Zjc {f:PV->Rr PV}{g:Nat->Int}{lo:Int}{n:Nat} (h:∀i,i<n->f (.int (lo+(i:Nat)))=.ok (.int (g i))):ZdA f (Zci lo n)=.ok (((List.range n).map g).map PV.int):=by
 unfold Zci
 have:∀l:List Nat,(∀i∈l,i<n)->ZdA f (l.map fun(k:Nat)=>PV.int (lo+(k:Int)))=.ok ((l.map g).map PV.int):=by
  intro l
  induction l with
  |nil=>intro _;rfl
  |cons a l ih =>
   intro hl
   simp only[Ztg,ZdA,h a (hl a (by simp)),Rr.bind_ok,ih fun i hi=>hl i (by simp[hi])]
 exact this _ fun i hi=>Ztv.mp hi
theorem Zhf (bs:List Bool):ZkP [.lst (bs.map PV.bl)]=.ok (.bl (bs.all id)):=by simp only[ZkP,Zgz]
theorem ZjL {ns:List Int}{p:Int->Prop} [DecidablePred p]:(ns.map fun z=>decide (p z)).all id=decide (∀x∈ns,p x):=by
 rw[Bool.eq_iff_iff,ZtD,decide_eq_true_iff]
 simp
theorem ZlB {ns:List Int}{h:Int} (h0:0<=h):ZjE (ns.map PV.int) none (some h)=(ns.take h.toNat).map PV.int:=by
 unfold ZjE HT.sIx
 simp only[ZsV,Zun,Nat.sub_zero]
 rw[if_neg (by omega),<- List.map_take]
 congr 1
 rw[List.take_eq_take_iff];omega
theorem ZhI {ns:List Int}{l:Int} (h0:0<=l):ZjE (ns.map PV.int) (some l) none=(ns.drop l.toNat).map PV.int:=by
 unfold ZjE HT.sIx
 simp only[ZsV]
 rw[if_neg (by omega),<- List.map_drop,<- List.map_take]
 congr 1
 rw[Ztw (by simp)]
 by_cases h:l.toNat<=ns.length
 ·rw[Nat.min_eq_left h]
 ·rw[ZtE (by omega),ZtE (by omega)]
theorem ZkB {i j:Int} (h1:-(10^80)<=i) (h2:i<=10^80) (h3:-(10^80)<=j) (h4:j<=10^80):Zms (.int i) (.int j)=.ok (.int (i*j)):=Zfo (ZjF 80 80 (by omega) (by omega))
theorem Zhh {x:PV}:orX none x=.ok x:=rfl
theorem Zhg {x:PV}{n:Str}:orX (some n) x=.exc (n,.non):=rfl
theorem ZeZ {n:Nat}:List.replicate (n+1) PV.non=PV.non::List.replicate n PV.non:=rfl
theorem ZeY:List.replicate 0 PV.non=[]:=rfl
theorem ZiR {a b:PV}:Zg5 [.tup [a,b]]=.ok (.int 2):=rfl
section
end
theorem Zhz {a:Str}{b:Int}:grd (.tup [.str a,.int b])=.ok (.tup [.str a,.int b]):=rfl
theorem Zh0 {a b:Int}:grd (.tup [.int a,.int b])=.ok (.tup [.int a,.int b]):=rfl
theorem Zha {g:Bool->Bool}:ZmR g .non=.ok (.bl (g true)):=rfl
section
variable {prog:Program}{w:World}{A:Around}{R:Result->Shared->Prop}{s:Shared}
theorem Um {elt target iter:Expr}{ifs:List Expr}{scope:Scope}{pos:Pos}{it acc:Value}{env:Env} (I:Nat->Shared->Prop)
  (turn:∀n s,I n s->wpAny (model prog w) A (pyNext it) (fun r s₁=>match r with
   |none=>R (.ok .next) s₁
   |some v=>wpAny (model prog w) A (letOwnedTupleGo target it v) (fun _ s₁'=>wpAny (model prog w) A (assign target env v) (fun _ s₂ =>
     wpAny (model prog w) A (forIn ifs true fun c r=>if r=true then do let ok <- isTrue c env (eval c env);pure (ForInStep.yield ok) else pure (ForInStep.yield r)) (fun ok s₃ =>
      if ok=true then wpAny (model prog w) A (eval elt env) (fun x s₄ =>
       wpAny (model prog w) A (call (.builtin "list.append") [acc,x]) (fun _ s₅=>∃m,m<n/\I m s₅) (notedBy (model prog w) A env fun e s'=>R (.error e) s') s₄) (notedBy (model prog w) A env fun e s'=>R (.error e) s') s₃
      else ∃m,m<n/\I m s₃) (notedBy (model prog w) A env fun e s'=>R (.error e) s') s₂) (notedBy (model prog w) A env fun e s'=>R (.error e) s') s₁') (notedBy (model prog w) A env fun e s'=>R (.error e) s') s₁) (notedBy (model prog w) A env fun e s'=>R (.error e) s') s)
  (n:Nat) (h:I n s) :
  codeAny (model prog w) A (.compLoop (.ListComp elt [⟨target,iter,ifs,0⟩] scope pos) 0 it acc env) R s:=by
 refine codeAny_loop rfl I (fun n s hI=>?_) n h
 show wpAny _ A ((compTurn (.ListComp elt [⟨target,iter,ifs,0⟩] scope pos) 0 it acc env).onRaise (fun x=>do noteFrame x env;theTreesLotGoes x)) _ _ s
 refine wpAny_noted ?_
 rw[compTurn_list]
 refine wpAny_bind (wpAny_standAt (wpAny_bind (wpAny_mono (turn n s hI) (fun r s₁ h₁=>?_) fun _ _ h'=>h')))
 cases r with
 |none=>exact wpAny_pure h₁
 |some v =>
  refine wpAny_bind (wpAny_mono h₁ (fun _ s₁' h₁'=>?_) fun _ _ h'=>h')
  refine wpAny_bind (wpAny_mono h₁' (fun _ s₂ h₂=>wpAny_bind (wpAny_mono h₂ (fun ok s₃ h₃=>?_) fun _ _ h'=>h')) fun _ _ h'=>h')
  cases ok with
  |false=>exact wpAny_pure ⟨rfl,h₃⟩
  |true =>
   exact wpAny_bind (wpAny_bind (wpAny_mono h₃ (fun x s₄ h₄=>wpAny_bind (wpAny_mono h₄ (fun _ s₅ h₅=>wpAny_pure (wpAny_pure ⟨rfl,h₅⟩)) fun _ _ h'=>h')) fun _ _ h'=>h'))
end
noncomputable def Zc2 (xs:List Str) (y:Str):Str:=if xs.contains y then "" else y
noncomputable def UF (X:Cx) (scope:Scope) (xs:List Str) (C:Addr) (ex:List Addr) (s₂:Shared) (H₂:Hp):Cx:=
 { X with N:=X.N.map (Zc2 xs)++xs,s₀:=s₂,H₀:=H₂,env:=compEnvC scope (Zgn scope X.env) C X.env,outer:=X.stack,ex:=ex,fn:=fun _=>false,pn:=[],xe:=fun _ _=>False }
noncomputable abbrev TB:=V->Hp->List V->Prop
noncomputable def tB1:TB:=fun x _ vs=>vs=[x]
noncomputable def tB2 (K:W.Frag):TB:=fun x H vs=>∃t a b,x=.ref t/\SqT K H t [a,b]/\vs=[a,b]
def PB (X:Cx) (scope:Scope) (xs:List Str) (tg:Expr) (Bd:TB):Prop:=∀C s₂ H₂ ex,∀(pins:List (Addr×Obj)) (s:Shared) (σ σx:St) (H:Hp) (x:V) (u:Value) (vs:List V) (E:Value->Shared->Prop),σ.length=X.N.length->σx.length=xs.length ->
 Inv (UF X scope xs C ex s₂ H₂) pins (σ++σx) H s->Jo x u->Bd x H vs->wpAny (model X.prog X.w) X.A (assign tg (UF X scope xs C ex s₂ H₂).env u) (fun _ s'=>Inv (UF X scope xs C ex s₂ H₂) pins (σ++vs.map some) H s') E s
def PCi (X:Cx) (ifs:List Expr) (t:TT):Prop:=∀(pins:List (Addr×Obj)) (s:Shared) (σ:St) (H:Hp) (Q:Bool->Hp->Prop) (E:Value->Shared->Prop),Inv X pins σ H s->t σ H Q ->
 wpAny (model X.prog X.w) X.A (forIn ifs true fun c r=>if r=true then do let ok <- isTrue c X.env (eval c X.env);pure (ForInStep.yield ok) else pure (ForInStep.yield r)) (TP X pins σ Q) E s
noncomputable def Zkg:TT:=fun _ H Q=>Q true H
theorem Zak {X:Cx}:PCi X [] Zkg:=fun pins s σ H Q E I h=>wpAny_tests_nil ⟨_,I,h⟩
def ZeK (σ:St) (Bd:TB) (tt:TT) (te:TE) (J:It) (H1:Hp) (Q:VK):Prop:=∃W:Nat->Nat->List V->Hp->Prop,(∃m,W 0 m [] H1)/\∀i m ys H2,W i m ys H2->ys.length<=sizeLine /\
 ((J.stop i H2/\∀p,H2 p=none->Q (.ref p) (upd H2 p (.lst ys))) \/
  (J.go i H2/\∃N:List V->Hp->Prop,(∀ys' H',N ys' H'->∃m',m'<m/\W (i+1) m' ys' H')/\∀x H3,J.yld i H2 x H3->∃vs,Bd x H3 vs/\tt (σ++vs.map some) H3 fun b H4=>if b=true then te (σ++vs.map some) H4 fun y H5=>N (ys++[y]) H5 else N ys H4))
noncomputable def Q4 (wi:TI) (Bd:TB) (tt:TT) (te:TE):TE:=fun σ H Q=>wi σ H fun J H1=>ZeK σ Bd tt te J H1 Q
noncomputable def V1 (N:List Str) (sc scope:Scope) (xs:List Str):Bool:=xs.all (fun x=>ZcG [] sc scope x)&&decide (N.map (Zc2 xs)++xs).Nodup&&!xs.isEmpty&&(N.all fun y=>xs.contains y || !(scope.names.lookup y==some .local))&&(scope.names.lookup (Str.ofString "")==none)
structure CkN (N:List Str) (sc scope:Scope) (xs:List Str):Prop where
 scs:∀x∈xs,Za3 [] sc scope x
 nd:(N.map (Zc2 xs)++xs).Nodup
 ex:∃x,x∈xs
 noN:∀y∈N,y ∉ xs->scope.names.lookup y≠some .local
 noE:scope.names.lookup (Str.ofString "")=none
theorem Ul {N:List Str}{sc scope:Scope}{xs:List Str} (h:V1 N sc scope xs=true):CkN N sc scope xs:=by
 unfold V1 at h
 simp only[Bool.and_eq_true,ZtD,decide_eq_true_eq,Bool.not_eq_true',Bool.or_eq_true,beq_iff_eq,beq_eq_false_iff_ne] at h
 obtain⟨⟨⟨⟨h1,h2⟩,h3⟩,h4⟩,h5⟩:=h
 refine⟨fun x hx=>Za3.of (h1 x hx),h2, ?_,fun y hy hn=>?_,h5⟩
 ·cases xs with
  |nil=>simp at h3
  |cons a l=>exact⟨a,by simp⟩
 ·rcases h4 y hy with z|z
  ·exact absurd (Zu4.mp z) hn
  ·exact z
section
variable {X:Cx}{pins:List (Addr×Obj)}{σ:St}{s₂:Shared}{H₂:Hp}{scope:Scope}{x:Str}{xs:List Str}{tg elt iter:Expr}{ifs:List Expr}{pos:Pos}{Bd:TB}{tt:TT}{te:TE}{J:It}{fp:List Addr}{it:Addr}{tn:Nat->Heap->Prop}
theorem J1 {N0:List Str} (sc:Za3 N0 X.env.scope scope x) (ok:X.Ok) {y:Str}{c:Addr} (h:(Zgn scope X.env).lookup y=some c):X.env.cells.lookup y=some c:=by
 have hm:=PySem.mem_of_lookup h
 unfold Zgn at hm
 obtain⟨p,hp,e⟩:=Ztm.mp hm
 have hp':=Zug.mp (List.mem_reverse.mp hp)
 obtain⟨e1,e2⟩:=Prod.mk.inj e
 have hk:=sc.fr p hp'.1 (beq_iff_eq.mp hp'.2)
 obtain⟨c',hc'⟩:=ok.has p.1 hk
 rw[hc'] at e2
 rw[<- e1,hc']
 exact congrArg some e2
theorem ZjG {N0:List Str} (I:Inv X pins σ H₂ s₂) (sc:Za3 N0 X.env.scope scope x) {C:Addr} (hC:s₂.heap.objs.size<=C) (ff:∀b∈fp,ZhQ X pins H₂ b) (fo:∀b∈fp,∃o,s₂.heap.get? b=some o):(UF X scope xs C fp s₂ H₂).Ok where
 mod:=I.ok.mod
 kind:=sc.kind
 glob:=I.ok.glob
 blt:=I.ok.blt
 above:=hC
 inj:=fun y z c h1 h2=>I.ok.inj y z c (J1 sc I.ok h1) (J1 sc I.ok h2)
 has:=fun y hy=>by
  have hy':(relabel scope X.env).names.lookup y=some .cell\/(relabel scope X.env).names.lookup y=some .free:=hy
  have hf:scope.names.lookup y=some .free:=by
   rcases hy' with z|z
   ·exact(ZQ sc.nc z).2 (.inl rfl)
   ·exact(ZQ sc.nc z).2 (.inr rfl)
  exact ZdR hf
 cab:=fun y c h=>by cases h
 hd:=I.ok.hd
 frames:=I.ok.frames
 stk:=.inl rfl
 exf:=fun b hb=>by
  obtain⟨f0,f1,f2,f3,f4,f5⟩:=ff b hb
  obtain⟨o,ho⟩:=fo b hb
  exact⟨Zt5 (Ztc (Heap.lt_size ho) hC),fun y c h=>f4 y c (J1 sc I.ok h)⟩
 bs:=I.bs
 bsz:=Ztu I.ok.bsz I.sz
 noex:=fun b o e hb=>by
  obtain⟨f0,f1,f2,f3,f4,f5⟩:=ff b hb
  rcases f3 with z|z
  ·exact I.ok.noex b o e z
  ·exact absurd (Ztc (Heap.lt_size e) (Ztu I.ok.bsz z)) (ZtF _)
 exfs:=fun b hb z=>by
  obtain⟨f0,f1,f2,f3,f4,f5⟩:=ff b hb
  rcases ZsZ.mp (I.stkSub b z) with e|e
  ·exact f1 e
  ·exact f2 e
 funs:=I.stack
 frf:=I.stkFree
theorem ZbM {E:Value->Shared->Prop}{Q:VK}{RR:Value->Addr->Result->Shared->Prop} (I:Inv X pins σ H₂ s₂) (ck:CkN X.N X.env.scope scope xs) (hx:x∈xs) (hNd:X.N.Nodup) (hc:X.calm=true)
  (T:ZlI X.prog X.w X.K tg J fp it tn) (st:tn 0 s₂.heap) (ff:∀b∈fp,ZhQ X pins H₂ b) (hw:ZeK σ Bd tt te J H₂ Q)
  (hb:PB X scope xs tg Bd) (ht:∀C s₂ H₂ ex,PCi (UF X scope xs C ex s₂ H₂) ifs tt) (he:∀C s₂ H₂ ex,PE (UF X scope xs C ex s₂ H₂) elt te)
  (hvs:∀x H vs,Bd x H vs->vs.length=xs.length)
  (hRR:∀D C s' H' m',s₂.heap.objs.size<=C->Inv X pins σ H' s'->s'.heap.Ns C m'->H' C=none->Q (.ref D) H'->RR (.ref D) C (.ok .next) s') :
  wpAny (model X.prog X.w) X.A (newList []) (fun acc s₃=>wpAny (model X.prog X.w) X.A (newFunctionEnv scope X.env.globals (Zgn scope X.env) [] X.env.qual none .none (some X.env)) (fun cenv s₄ =>
   codeAny (model X.prog X.w) X.A (.compStart (.ListComp elt [⟨tg,iter,ifs,0⟩] scope pos) 0 (.ref it) acc { cenv with scope:=relabel scope X.env }) (RR acc cenv.locals) s₄) E s₃) E s₂:=by
 have sc:=ck.scs x hx
 refine wpAny_newObj_type (wpAny_newFunctionEnv sc.nc (by intro y hy;simp at hy) (fun h₁ hns₁ hsb₁=>?_) sc.kind)
 dsimp only at hns₁ hsb₁ ⊢
 generalize hP2:s₂.heap.push { cls:=.type "list",dict:=none,data:=.seq ([]:List Value).toArray }=P2 at hns₁ hsb₁ ⊢
 have hCs:P2.objs.size=s₂.heap.objs.size+1:=by rw[<- hP2,Heap.size_push]
 have hCle:s₂.heap.objs.size<=P2.objs.size:=by rw[hCs];exact Nat.le_succ _
 have hDC:s₂.heap.objs.size≠P2.objs.size:=by rw[hCs];exact Zt5 (Nat.lt_succ_self _)
 generalize hCe:P2.objs.size=C at hns₁ hsb₁ hCs hCle hDC ⊢
 generalize hDe:s₂.heap.objs.size=D at hCs hCle hDC ⊢
 have fo:∀b∈fp,∃o,s₂.heap.get? b=some o:=fun b hb=>let ⟨o,e,_⟩:=T.obj _ _ st b hb;⟨o,e⟩
 have flt:∀b∈fp,b<D:=fun b hb=>by obtain⟨o,e⟩:=fo b hb;rw[<- hDe];exact Heap.lt_size e
 have old:∀b o,s₂.heap.get? b=some o->h₁.get? b=some o:=fun b o e=>by
  have hb:=Heap.lt_size e
  exact hsb₁.extBut b o (Zt5 (by rw[hCs];exact Nat.lt_succ_of_lt (hDe▸hb))) (Heap.get?_push_of_some _ (hP2▸Heap.get?_push_of_some _ e))
 have hacc:h₁.get? D=some { cls:=.type "list",data:=.seq ([]:List Value).toArray 0 }:=hsb₁.extBut _ _ hDC (Heap.get?_push_of_some _ (hP2▸hDe▸Heap.get?_push_size _ rfl))
 have okB:=ZjG (x:=x) (xs:=xs) (C:=C) I sc (by rw[hDe];exact hCle) ff fo
 have hfreshD:H₂ D=none:=I.hok.fresh (by rw[hDe];exact ZsU _)
 have hfreshC:H₂ C=none:=I.hok.fresh (by rw[hDe];exact hCle)
 have I0:Inv (UF X scope xs C fp s₂ H₂) [(D,{ cls:=.type "list",data:=.seq ([]:List Value).toArray 0 })] (σ++List.replicate xs.length none) H₂ { s₂ with heap:=h₁,toks:=s₂.toks+([]:List (Str×Value)).length }:=by
  refine⟨okB,rfl,I.bare,Un.kept old,⟨_,hns₁,fun i y v e1 e2 e3=>?_⟩,fun y c e=>?_,hfreshC,fun y c e=>I.freeC y c (J1 sc I.ok e),fun p hp=>?_,I.hok.kept old,by simp[UF,I.len]⟩
  ·have hi:i<σ.length:=by
    by_cases hi:i<σ.length
    ·exact hi
    ·rw[ZsY (by omega)] at e2
     rw[Zus] at e2
     split at e2<;>cases e2
   rw[Ztb hi] at e2
   have e1':(X.N.map (Zc2 xs)++xs)[i]?=some y:=e1
   rw[Ztb (by rw[ZsV,<- I.len];exact hi),Ztf] at e1'
   have lk:scope.names.lookup y=some .local\/scope.names.lookup y=some .free:=by
    have e3':(relabel scope X.env).names.lookup y=some .local\/(relabel scope X.env).names.lookup y=some .cell\/(relabel scope X.env).names.lookup y=some .free:=e3
    rcases e3' with z|z|z
    ·exact .inl ((ZQ sc.nc z).1 rfl)
    ·exact .inr ((ZQ sc.nc z).2 (.inl rfl))
    ·exact .inr ((ZQ sc.nc z).2 (.inr rfl))
   obtain⟨y0,ey0,ey⟩:∃y0,X.N[i]?=some y0/\Zc2 xs y0=y:=by
    cases q:X.N[i]? with
    |none=>rw[q] at e1';cases e1'
    |some y0=>rw[q] at e1';exact⟨y0,rfl,Option.some.inj e1'⟩
   have hy0:y0 ∉ xs:=fun z=>by
    have:y=Str.ofString "":=by rw[<- ey];unfold Zc2;rw[if_pos (Zu4.mpr z)]
    rw[this,ck.noE] at lk
    rcases lk with z|z<;>cases z
   have ey2:y0=y:=by rw[<- ey];unfold Zc2;rw[if_neg (fun z=>hy0 (Zu4.mp z))]
   rw[ey2] at ey0 hy0
   have e1':X.N[i]?=some y:=ey0
   have yN:y∈X.N:=ZsQ e1'
   have e3':(relabel scope X.env).names.lookup y=some .local\/(relabel scope X.env).names.lookup y=some .cell\/(relabel scope X.env).names.lookup y=some .free:=e3
   have hcf:(relabel scope X.env).names.lookup y=some .cell\/(relabel scope X.env).names.lookup y=some .free:=by
    rcases e3' with z|z
    ·exact absurd ((ZQ sc.nc z).1 rfl) (ck.noN y yN hy0)
    ·exact z
   have hfree:scope.names.lookup y=some .free:=by
    rcases hcf with z|z
    ·exact(ZQ sc.nc z).2 (.inl rfl)
    ·exact(ZQ sc.nc z).2 (.inr rfl)
   obtain⟨c,hcl⟩:=ZdR (X:=X) hfree
   have hcx:=J1 sc I.ok hcl
   have hvis:=sc.fr _ (PySem.mem_of_lookup hfree) rfl
   obtain⟨m,hn,hl⟩:=I.loc
   obtain⟨u,ru,hlook⟩:=hl i y v e1' e2 (.inr hvis)
   refine⟨u,ru,.inr ⟨hcf,c,hcl, ?_⟩⟩
   rcases hlook with ⟨k,_⟩|⟨k,c',ec,hcell⟩
   ·have k':X.env.scope.names.lookup y=some .local:=k
    have hv':X.env.scope.names.lookup y=some .cell\/X.env.scope.names.lookup y=some .free:=hvis
    rw[k'] at hv'
    rcases hv' with z|z<;>cases z
   ·rw[hcx] at ec;cases ec
    obtain⟨o,ho,hd⟩:=hcell
    exact⟨o,old _ _ ho,hd⟩
  ·obtain⟨v,o,ho,hd⟩:=I.cell y c (J1 sc I.ok e)
   exact⟨v,o,old _ _ ho,hd⟩
  ·have e:p=(D,{ cls:=.type "list",data:=.seq ([]:List Value).toArray 0 }):=by simpa[UF] using hp
   subst e
   exact⟨hacc,hfreshD,hDC,(fun z=>by
    rcases ZsZ.mp (I.stkSub D z) with e|e
    ·exact absurd I.lt (by rw[<- e,hDe];exact ZtF _)
    ·exact I.nofs (by rw[hDe];exact ZsU _) e),fun v z=>nomatch z⟩
 obtain⟨W,⟨m0,w0⟩,turn⟩:=hw
 have fpB:∀{H':Hp}{o:Obj},(∀b∈fp,H' b=none)->∀b∈fp,ZhQ (UF X scope xs C fp s₂ H₂) [(D,o)] H' b:=fun {H' o} hn b hb=>by
  obtain⟨f0,f1,f2,f3,f4,f5⟩:=ff b hb
  obtain⟨g1,g2⟩:=okB.exf b hb
  exact⟨hn b hb,g1,okB.exfs b hb,.inl hb,g2,fun p hp=>by
   have e:p=(D,o):=by simpa[UF] using hp
   subst e
   exact(Zt5 (flt b hb)).symm⟩
 have hσ:σ.length=X.N.length:=I.len
 have loop:∀s₃:Shared,s₃={ s₂ with heap:=h₁,toks:=s₂.toks+([]:List (Str×Value)).length } ->
   codeAny (model X.prog X.w) X.A (.compLoop (.ListComp elt [⟨tg,iter,ifs,0⟩] scope pos) 0 (.ref it) (.ref D) (compEnvC scope (Zgn scope X.env) C X.env)) (RR (.ref D) C) s₃:=by
  rintro s₃ rfl
  refine Um
   (fun n s'=>∃i ys its k σx H',σx.length=xs.length/\Inv (UF X scope xs C fp s₂ H₂) [(D,{ cls:=.type "list",data:=.seq (List.toArray its) k })] (σ++σx) H' s'/\tn i s'.heap/\(∀b∈fp,H' b=none)/\ZX ys its/\W i n ys H') ?_ m0
   ⟨0,[],[],0,List.replicate xs.length none,H₂,by simp,I0,T.keep _ _ _ st (fun b hb o e=>old b o e),fun b hb=>(ff b hb).1,.nil,w0⟩
  rintro n s' ⟨i,ys,its,k,σx,H',hσx,I',st',fr',rv,w'⟩
  obtain⟨hz,hcase⟩:=turn i n ys H' w'
  have hpinD:=I'.pin (D,{ cls:=.type "list",data:=.seq (List.toArray its) k }) (by simp[UF])
  rcases hcase with ⟨stop,q⟩|⟨go,N,hN,step⟩
  ·refine thn (T.done (UF X scope xs C fp s₂ H₂) rfl rfl rfl hc i _ s' _ H' _ I' (fpB fr') st' stop) fun r s4 ⟨hr,I4⟩=>?_
   subst hr
   have pD:=I4.pin (D,{ cls:=.type "list",data:=.seq (List.toArray its) k }) (by simp[UF])
   obtain⟨m4,hn4,_⟩:=I4.loc
   have IX:Inv X pins σ H' s4:=I.call' I4.os I4.base I4.hok I4.bare fun b hb=>by
    obtain⟨f0,f1,f2,f3,f4,f5⟩:=ff b hb
    exact⟨f3,f1,f4,f5⟩
   have IX2:=IX.adopt (D:=D) (ys:=ys) (its:=its) (n:=k) hpinD.2.1 (by rw[<- hDe];exact I.sz) (by rw[<- hDe];exact ZuW I.lt)
    (fun y c e z=>by
     obtain⟨v,o,ho,hd⟩:=I.cell y c e
     have:=Heap.lt_size ho
     rw[hDe,z] at this
     exact ZtF _ this)
    (fun p hp z=>by
     have:=Heap.lt_size (I.pin p hp).1
     rw[hDe,z] at this
     exact ZtF _ this) pD.1 rv hz
   refine hRR D C s4 _ m4 (by rw[hDe];exact hCle) IX2 hn4 ?_ (q D hpinD.2.1)
   rw[Zr (Ne.symm hDC)]
   exact I4.free
  ·refine thn (T.item (UF X scope xs C fp s₂ H₂) rfl rfl rfl hc i _ s' _ H' _ I' (fpB fr') st' go) fun r s4 ⟨u,hr,h4⟩=>?_
   subst hr
   refine thn h4 fun _ s5 ⟨y,H5,I5,r5,y5,st5,fr5⟩=>?_
   have I5':=I5.pinned (fpB fr5) (T.obj _ _ st5)
   obtain⟨vs,bd5,stp⟩:=step y H5 y5
   refine thn (hb C s₂ H₂ fp _ s5 σ σx H5 y u vs _ hσ hσx I5' r5 bd5) fun _ s6 I6=>?_
   refine thn (ht C s₂ H₂ fp _ s6 _ H5 _ _ I6 stp) fun ok s6' hok=>?_
   obtain⟨H6',I6',q6'⟩:=hok
   have hvl:=hvs _ _ _ bd5
   have stay:∀{s9:Shared}{H9:Hp}{ys':List V}{its':List Value}{k':Nat},True:=fun {_ _ _ _ _}=>trivial
   cases ok with
   |false =>
    rw[if_neg Bool.false_ne_true] at q6' ⊢
    have pD6:=I6'.pin (D,{ cls:=.type "list",data:=.seq (List.toArray its) k }) (by simp[UF])
    obtain⟨m',hm,w8⟩:=hN _ _ q6'
    refine⟨m',hm,i+1,ys,its,k,vs.map some,H6',by simp[hvl],I6'.pins_of fun p hp=>?_, ?_,fun b hb'=>?_,rv,w8⟩
    ·have e:p=(D,{ cls:=.type "list",data:=.seq (List.toArray its) k }):=by simpa using hp
     subst e
     exact⟨pD6.1,pD6.2.1,pD6.2.2.1,pD6.2.2.2.1,fun v z=>nomatch z⟩
    ·refine T.keep _ _ _ st5 fun b hb' o e=>?_
     exact(I6'.pin (b,o) (ZsT _ (ZsT _ (JK hb' e)))).1
    ·obtain⟨o,e,d⟩:=T.obj _ _ st5 b hb'
     exact(I6'.pin (b,o) (ZsT _ (ZsT _ (JK hb' e)))).2.1
   |true =>
   rw[if_pos rfl] at q6' ⊢
   refine wpAny_mono (he C s₂ H₂ fp _ s6' _ H6' _ I6' q6') (fun u7 s7 h7=>?_) fun _ _ f=>f.elim
   obtain⟨v7,H7,I7,r7,n7⟩:=h7
   have pD7:=I7.pin (D,{ cls:=.type "list",data:=.seq (List.toArray its) k }) (by simp[UF])
   have hlen:=rv.length
   refine append_at (hsz:=by show its.toArray.size<=sizeLine;rw[Ztd,<- hlen];exact hz) pD7.1 fun h8 hs8 hD8=>?_
   obtain⟨m',hm,w8⟩:=hN _ _ n7
   have hD8':h8.get? D=some { cls:=.type "list",data:=.seq (its++[u7]).toArray (k+1) }:=by rw[hD8,List.push_toArray]
   have I8:Inv (UF X scope xs C fp s₂ H₂) [] (σ++vs.map some) H7 { s7 with heap:=h8 }:=by
    refine(I7.pins_of (pins':=[]) fun p hp=>absurd hp (by simp)).turned (t':=s7.toks) (it:=D) (fun b o hb e=>(hs8.2 b hb).trans e) pD7.2.1 pD7.2.2.1 (.inr (by show s₂.heap.objs.size<=D;rw[hDe];exact ZsU _)) (fun y' c' e' z=>?_) fun p hp=>absurd (show p∈([]:List (Addr×Obj)) from by simpa[UF] using hp) (by simp)
    obtain⟨v,o,ho,hd⟩:=I.cell y' c' (J1 sc I.ok e')
    have:=Heap.lt_size ho
    rw[hDe,z] at this
    exact ZtF _ this
   refine⟨m',hm,i+1,ys++[v7],its++[u7],k+1,vs.map some,H7,by simp[hvl],I8.pins_of fun p hp=>?_, ?_,fun b hb'=>?_,rv.append (.cons r7 .nil),w8⟩
   ·have e:p=(D,{ cls:=.type "list",data:=.seq (its++[u7]).toArray (k+1) }):=by simpa using hp
    subst e
    exact⟨hD8',pD7.2.1,pD7.2.2.1,pD7.2.2.2.1,fun v z=>nomatch z⟩
   ·refine T.keep _ _ _ st5 fun b hb' o e=>?_
    have hpb:=I7.pin (b,o) (ZsT _ (ZsT _ (JK hb' e)))
    exact(hs8.2 b (Zt5 (flt b hb'))).trans hpb.1
   ·obtain⟨o,e,d⟩:=T.obj _ _ st5 b hb'
    exact(I7.pin (b,o) (ZsT _ (ZsT _ (JK hb' e)))).2.1
 exact codeAny_compStart_list (loop _ rfl) (T.self _ 0 _ _ _ (T.keep _ _ _ st fun b hb o e=>old b o e) (loop _ rfl))
theorem Zie {c:Expr} (hx:∀e s,X.xe e s->False) (h:PT X c tt):PCi X [c] tt:=fun pins s σ H Q E I q =>
 wpAny_tests_one (wpAny_mono (h pins s σ H Q I q) (fun _ _ z=>z) fun e s z=>(hx e s z).elim)
theorem VD {px:Pos} (hNd:X.N.Nodup) (hchk:V1 X.N X.env.scope scope [x]=true:=by rfl):PB X scope [x] (.Name x px) tB1:=by
 intro C s₂ H₂ ex pins s σ σx H y u vs E hσ hσx I r hb
 have ck:=Ul hchk
 have sc:=ck.scs x (by simp)
 have hb:vs=[y]:=hb
 subst hb
 have ndB:=ck.nd
 refine wpAny_assign_Name ?_
 refine Za7 (X:=UF X scope [x] C ex s₂ H₂) (i:=X.N.length) (x:=x) (v:=y) I ndB (by simp[UF]) (.inl (lookup_relabel_local sc.var)) r (fun s6 I6=>?_) (.inr (lookup_relabel_local sc.var))
 obtain⟨o,rfl⟩:∃o,σx=[o]:=by
  cases σx with
  |nil=>simp at hσx
  |cons a l =>
   cases l with
   |nil=>exact⟨a,rfl⟩
   |cons b l=>simp at hσx
 have eσ:(σ++[o]).set X.N.length (some y)=σ++[some y]:=by
  rw[<- hσ];simp
 rw[eσ] at I6
 exact I6
theorem VM {wi:TI} (hi:PI X tg iter wi) (hb:PB X scope xs tg Bd) (ht:∀C s₂ H₂ ex,PCi (UF X scope xs C ex s₂ H₂) ifs tt) (he:∀C s₂ H₂ ex,PE (UF X scope xs C ex s₂ H₂) elt te) (hvs:∀x H vs,Bd x H vs->vs.length=xs.length) (hNd:X.N.Nodup) (hc:X.calm=true)
  (hclos:closureFor scope X.env=pure (Zgn scope X.env):=by rfl) (hchk:V1 X.N X.env.scope scope xs=true:=by rfl) (hs:∀x,foldedSetIterable iter X.env x=pure x:=by exact fun _=>rfl) :
  PE X (.ListComp elt [⟨tg,iter,ifs,0⟩] scope pos) (Q4 wi Bd tt te):=by
 intro pins s σ H Q I h
 have ck:=Ul hchk
 obtain⟨x,hx⟩:=ck.ex
 have sc:=ck.scs x hx
 rw[eval_ListComp]
 refine wpAny_comprehension_free (use:=none) rfl hs hclos sc.kind sc.locs (thn (hi pins s σ H _ I h) fun xv s₁ h₁=>thn h₁ fun itv s₂ h₂=>?_)
 obtain⟨it,fp,tn,J,H2,e,I2,T,st2,f2,q⟩:=h₂
 subst e
 refine ZbM (RR:=fun acc C=>compPost (model X.prog X.w) X.A X.xe none (EP X pins σ Q) acc C) I2 ck hx hNd hc T st2 f2 q hb ht he hvs ?_
 intro D C s' H' m' hC I' hn hC0 hq
 refine⟨m',hn,fun h'' hs''=>⟨.ref D,H', ?_,rfl,hq⟩⟩
 refine I'.turned (t':=s'.toks) (it:=C) (fun b o hb e=>(hs''.2 b hb).trans e) hC0 (ZuW (Ztc I2.lt hC)) (.inr (Ztu I2.sz hC)) (fun y c e z=>?_) fun p hp z=>?_
 ·obtain⟨v,o,ho,hd⟩:=I2.cell y c e
  exact absurd (Heap.lt_size ho) (Nat.not_lt.mpr (by rw[z];exact hC))
 ·exact absurd (Heap.lt_size (I2.pin p hp).1) (Nat.not_lt.mpr (by rw[z];exact hC))
noncomputable def Q3 (i:Nat) (wi:TI) (Bd:TB) (tt:TT) (te:TE):TS:=fun D σ H=>Q4 wi Bd tt te σ H fun v H'=>D.nx (σ.set i (some v)) H'
theorem QC {i:Nat}{y:Str}{py spos:Pos}{wi:TI} (hN:X.N.Nodup) (hi:X.N[i]?=some y) (hit:PI X tg iter wi) (hb:PB X scope xs tg Bd) (ht:∀C s₂ H₂ ex,PCi (UF X scope xs C ex s₂ H₂) ifs tt) (he:∀C s₂ H₂ ex,PE (UF X scope xs C ex s₂ H₂) elt te) (hvs:∀x H vs,Bd x H vs->vs.length=xs.length) (hc:X.calm=true)
  (hsw:swapsWith (.ListComp elt [⟨tg,iter,ifs,0⟩] scope pos) (some (.Name y py)) spos.line X.env=pure true:=by rfl) (hy:X.env.scope.names.lookup y=some .local:=by rfl)
  (hclos:closureFor scope X.env=pure (Zgn scope X.env):=by rfl) (hchk:V1 X.N X.env.scope scope xs=true:=by rfl) (hs:∀x,foldedSetIterable iter X.env x=pure x:=by exact fun _=>rfl) :
  PS X (.Assign [.Name y py] (.ListComp elt [⟨tg,iter,ifs,0⟩] scope pos) spos) (Q3 i wi Bd tt te):=by
 intro pins s σ H D0 I h
 have ck:=Ul hchk
 obtain⟨x,hx⟩:=ck.ex
 have sc:=ck.scs x hx
 rw[exec_Assign_Name_used _ _ _ _ hsw]
 refine wpAny_bind (wpAny_standAt (wpAny_bind ?_))
 show wpAny _ X.A (do let _ <- comprehension (.ListComp elt [⟨tg,iter,ifs,0⟩] scope pos) scope X.env _ (newList []) false (eval iter X.env) (some (assign (.Name y py) X.env))) _ _ s
 refine wpAny_bind (wpAny_mono (wpAny_comprehension_free (use:=some (assign (.Name y py) X.env)) (Q:=fun _ s'=>SP X pins D0 .next s') rfl hs hclos sc.kind sc.locs
  (thn (hit pins s σ H _ I h) fun xv s₁ h₁=>thn h₁ fun itv s₂ h₂=>?_)) (fun _ s' hq=>wpAny_pure (wpAny_pure hq)) fun _ _ e=>e)
 obtain⟨it,fp,tn,J,H2,e,I2,T,st2,f2,q⟩:=h₂
 subst e
 refine ZbM (RR:=fun acc C=>compPost (model X.prog X.w) X.A X.xe (some (assign (.Name y py) X.env)) (fun _ s'=>SP X pins D0 .next s') acc C) I2 ck hx hN hc T st2 f2 q hb ht he hvs ?_
 intro D C s' H' m' hC I' hn hC0 hq
 show wpAny _ X.A (assign (.Name y py) X.env (.ref D)) _ _ _
 have cellC:∀y c,X.env.cells.lookup y=some c->c≠C:=fun y c e z=>by
  obtain⟨v,o,ho,hd⟩:=I2.cell y c e
  exact absurd (Heap.lt_size ho) (Nat.not_lt.mpr (by rw[z];exact hC))
 have locC:C≠X.env.locals:=ZuW (Ztc I2.lt hC)
 refine wpAny_assign_Name (Zbn (i:=i) (v:=.ref D) I' hN hi (.inl hy) rfl (fun s'' I'' ⟨a,hsa,ha⟩=>?_) (.inr hy))
 have hCa:C≠a:=by
  rcases ha with z|z
  ·rw[z];exact locC
  ·exact(cellC _ _ z).symm
 refine⟨m',hn.sameBut hsa hCa,fun h'' hs''=>⟨σ.set i (some (.ref D)),H', ?_,hq⟩⟩
 refine I''.turned (t':=s''.toks) (it:=C) (fun b o hb e=>(hs''.2 b hb).trans e) hC0 locC (.inr (Ztu I2.sz hC)) cellC fun p hp z=>?_
 exact absurd (Heap.lt_size (I2.pin p hp).1) (Nat.not_lt.mpr (by rw[z];exact hC))
end
noncomputable def ZbW {α β:Type} (f:α->Rr (Option β)):List α->Rr (List β)
 |[]=>.ok []
 |x::xs=>(f x).bind fun o=>(ZbW f xs).bind fun ys=>.ok (o.toList++ys)
def DB (K:W.Frag) (Bd:TB) (k:Nat) (hb:PV->Rr (List PV)):Prop:=(∀x e,hb x≠.exc e)/\∀(H:Hp) (S:Addr->Prop) (x:PV) (v:V) (xs:List PV),Rep K H S x v->hb x=.ok xs->xs.length=k/\∃vs,Bd v H vs/\Reps K H S xs vs
theorem Zl9 {K:W.Frag}:DB K tB1 1 (fun x=>.ok [x]):=⟨fun x e h=>(by cases h),fun H S x v xs r h=>by
 cases h
 exact⟨rfl,[v],rfl,v,[],rfl,r,rfl⟩⟩
section
variable {K:W.Frag}{B:Addr->Prop}{EX:PX->Hp->Prop}{H0 H H':Hp}{σ:St}{Γ Γ' Γ1 Γ2:List Md}{ρ:List PV}{F:Nat->List Addr}{R:List Addr}{k:Nat}{x:PV}{v:V}{te:TE}{tt:TT}{f fe:List PV->Rr PV}{c:List PV->Rr Bool}{Bd:TB}{hb:PV->Rr (List PV)}
theorem ZbJ:DT K EX Γ Γ Zkg (fun _=>.ok true):=fun B H0 H σ ρ F R Q A d=>d H F (Zw.refl H) (fun _ _ h=>h) A
theorem Ag.pushN:∀{xs:List PV}{vs:List V}{σ:St}{Γ:List Md}{ρ:List PV},Reps K H (NO B F R) xs vs->Ag K B H0 H σ Γ ρ F R->Ag K B H0 H (σ++vs.map some) (Γ++List.replicate xs.length .S) (ρ++xs) F R
 |[],vs,σ,Γ,ρ,h,A=>by
  have h:vs=[]:=h
  subst h
  simpa using A
 |x::xs,vs,σ,Γ,ρ,h,A=>by
  obtain⟨v,r,rfl,h1,h2⟩:=h
  have:=Ag.pushN (xs:=xs) (vs:=r) h2 (A.push h1)
  simpa[List.replicate_succ] using this
theorem Ag.popN {n:Nat}{τ:St}{xs:List PV} (A:Ag K B H0 H (σ++τ) (Γ++List.replicate n .S) (ρ++xs) F R) (l1:σ.length=Γ.length) (l2:ρ.length=Γ.length):Ag K B H0 H σ Γ ρ F R:=by
 refine⟨A.same,A.own,A.young,A.youngR,A.live,A.liveR,A.disj,A.disjR,l1,l2,fun i=>?_⟩
 have:=A.slot i
 by_cases h1:i<Γ.length
 ·rw[ZsO,ZsO,Ztb h1,Ztb (by rw[l2];exact h1),Ztb (by rw[l1];exact h1),<- ZsO,<- ZsO] at this
  exact this
 ·rw[ZsO,Zt2 (by omega)]
  by_cases h2:i<Γ.length+n
  ·rw[ZsO,ZsY (by omega),Zus,if_pos (by omega)] at this
   simp only[Zu8] at this
   exact this.1
  ·exact A.outF (by simp;omega)
theorem UA {wi:TI}{fi:List PV->Rr (List PV)} (hi:DIc K EX Γ Γ1 wi fi) (hB:DB K Bd k hb) (ht:DT K EX (Γ1++List.replicate k .S) (Γ1++List.replicate k .S) tt c) (he:DE K EX (Γ1++List.replicate k .S) (Γ1++List.replicate k .S) .F te fe) :
  DE K EX Γ Γ1 .F (Q4 wi Bd tt te) (fun ρ=>(fi ρ).bind fun xs=>(lenM xs).bind fun _=>(ZbW (fun x=>(hb x).bind fun as=>(c (ρ++as)).bind fun b=>if b=true then (fe (ρ++as)).bind fun y=>.ok (some y) else .ok none) xs).bind fun ys=>.ok (.lst ys)):=fun B H0 H σ ρ F R Q A d=>by
 refine hi B H0 H σ ρ F R _ A (d.bind.imp (fun xs _ d J H1 F1 s1 f1 A1 it=>?_) fun e q=>q)
 obtain⟨hlen,d⟩:=Dn.lenM d.bind
 generalize hgx:(fun x=>(hb x).bind fun as=>(c (ρ++as)).bind fun b=>if b=true then (fe (ρ++as)).bind fun y=>Rr.ok (some y) else .ok none)=gx at d
 have l1:=A1.lenS
 have l2:=A1.lenR
 refine⟨fun i m ys H2=>∃zs G F2,m=xs.length-i/\i<=xs.length/\ys.length<=i/\Zw H1 H2/\Trees K H2 zs ys G/\(∀a∈G,a ∉ R/\(H1 a=none\/∃j,a∈F1 j))/\(∀i,∀a∈F2 i,a∈F1 i)/\Ag K B H0 H2 σ Γ1 ρ F2 (G++R) /\
  Dn ((ZbW gx (xs.drop i)).bind fun ys'=>.ok (.lst (zs++ys'))) (fun x=>∀v H',Zw H H'->Res K B H0 H σ Γ1 ρ F R .F x v H'->Q v H') (fun e=>∀H',Zw H0 H'->EX e H'),
  ⟨xs.length,[],[],F1,by simp,Ztp _,ZsU _,Zw.refl _,⟨rfl,rfl⟩,by simp,fun _ _ h=>h,A1,by simpa using d⟩, ?_⟩
 rintro i m ys H2 ⟨zs,G,F2,rfl,hi',hl,s2,tr,o2,f2,A2,dn⟩
 refine⟨VQ (by omega), ?_⟩
 have itp:=it H2 F2 s2 f2 i
 cases hx:xs[i]? with
 |none =>
  refine .inl ⟨itp.2 hx,fun p hp=>?_⟩
  have hd:xs.drop i=[]:=ZtE (Zt3.mp hx)
  rw[hd] at dn
  have dn':∀v H',Zw H H'->Res K B H0 H σ Γ1 ρ F R .F (.lst (zs++[])) v H'->Q v H':=dn
  rw[ZtS] at dn'
  exact dn' _ _ ((s1.trans s2).trans (Zw.new hp)) (Res.newF (s1.trans s2) (fun i a h=>f1 i a (f2 i a h)) tr (fun a ha=>⟨(o2 a ha).1,(o2 a ha).2.elim (fun z=>.inl (s1.free z)) fun⟨j,z⟩=>.inr ⟨j,f1 j a z⟩⟩) A2 hp)
 |some x =>
  have hlt:i<xs.length:=(ZsR.mp hx).1
  obtain⟨go,yl⟩:=itp.1 x hx
  have hdx:xs.drop i=x::xs.drop (i+1):=by
   rw[Zth hlt]
   rw[ZsP hlt] at hx;cases hx;rfl
  rw[hdx] at dn
  simp only[ZbW,Rr.assoc] at dn
  rw[<- hgx] at dn
  simp only[Rr.assoc] at dn
  rw[hgx] at dn
  refine .inr ⟨go,fun ys' H'=>∃zs G F2,ys'.length<=i+1/\Zw H1 H'/\Trees K H' zs ys' G/\(∀a∈G,a ∉ R/\(H1 a=none\/∃j,a∈F1 j))/\(∀i,∀a∈F2 i,a∈F1 i)/\Ag K B H0 H' σ Γ1 ρ F2 (G++R) /\
   Dn ((ZbW gx (xs.drop (i+1))).bind fun ys'=>.ok (.lst (zs++ys'))) (fun x=>∀v H',Zw H H'->Res K B H0 H σ Γ1 ρ F R .F x v H'->Q v H') (fun e=>∀H',Zw H0 H'->EX e H'),
   fun ys' H' ⟨zs,G,F2,a1,a2,a3,a4,a5,a6,a7⟩=>⟨xs.length-(i+1),by omega,zs,G,F2,rfl,hlt,a1,a2,a3,a4,a5,a6,a7⟩,fun v H3 y=>?_⟩
  obtain⟨s3,rx⟩:=yl v H3 y
  have rx':Rep K H3 (NO B F2 (G++R)) x v:=Rep.mono (fun a us s r=>⟨r,s.1.1,fun z=>by
   rcases ZsS.mp z with z|z
   ·rcases (o2 a z).2 with q|⟨j,q⟩
    ·exact s.2.1 q
    ·exact s.2.2 j q
   ·exact s.1.2.1 z,s.1.2.2⟩) (fun a us r=>r) rx
  cases hbx:hb x with
  |exc e=>exact absurd hbx (hB.1 x e)
  |bad=>rw[hbx] at dn;exact dn.elim
  |ok as =>
   rw[hbx] at dn
   simp only[Rr.bind_ok] at dn
   obtain⟨hk,vs,bd,ra⟩:=hB.2 H3 _ x v as rx' hbx
   refine⟨vs,bd, ?_⟩
   have A3:=Ag.pushN ra (A2.grow s3)
   rw[hk] at A3
   refine ht B H0 H3 _ _ F2 (G++R) _ A3 (dn.bind.imp (fun b _ dn H4 F4 s4 f4 A4=>?_) fun e q=>q)
   cases b with
   |false =>
    rw[if_neg Bool.false_ne_true] at dn ⊢
    simp only[Rr.bind_ok,ZuC] at dn
    refine⟨zs,G,F4,by omega,(s2.trans s3).trans s4,(tr.same s3).same s4,o2,fun i a h=>f2 i a (f4 i a h),A4.popN l1 l2, ?_⟩
    simp only[Rr.assoc,Rr.bind_ok,ZtT] at dn
    exact dn
   |true =>
    rw[if_pos rfl] at dn ⊢
    simp only[Rr.assoc] at dn
    refine he B H0 H4 _ _ F4 (G++R) _ A4 (dn.bind.imp (fun z _ dn w H5 s5 r5=>?_) fun e q=>q)
    obtain⟨F5,f5,G5,t5,o5,A5⟩:=r5
    refine⟨zs++[z],G++G5,F5,by simp;omega,((s2.trans s3).trans s4).trans s5,Trees.append (((tr.same s3).same s4).same s5) (Trees.one t5) (fun a ha z=>(o5 a z).1 (ZsW _ ha)),fun a ha=>?_,fun i a h=>f2 i a (f4 i a (f5 i a h)),(A5.popN l1 l2).less fun a ha=>?_, ?_⟩
    ·rcases ZsS.mp ha with z|z
     ·exact o2 a z
     ·refine⟨fun q=>(o5 a z).1 (ZsT _ q), ?_⟩
      rcases (o5 a z).2 with q|⟨j,q⟩
      ·exact .inl (((s2.trans s3).trans s4).free q)
      ·exact .inr ⟨j,f2 j a (f4 j a q)⟩
    ·simp only[ZsS] at ha ⊢
     rcases ha with (z|z)|z
     ·exact .inr (.inl z)
     ·exact .inl z
     ·exact .inr (.inr z)
    ·simp only[Rr.assoc,Rr.bind_ok,ZuC,Zta,Zui] at dn ⊢
     exact dn
theorem Uk {EX:PX->Hp->Prop}{kd:Kd}{i:Nat}{wi:TI} (he:DE K EX Γ Γ' .F (Q4 wi Bd tt te) f) (hi:i<Γ'.length):DS K EX Γ ⟨Γ'.set i .O,Γ1,Γ2,kd⟩ (Q3 i wi Bd tt te) (fun ρ=>(f ρ).thenS fun x=>.next (ρ.set i x)):=Je he hi
end
theorem hv1 {n:Str}:∀(x:V) (H:Hp) (vs:List V),tB1 x H vs->vs.length=[n].length:=fun _ _ _ h=>congrArg List.length h
theorem hv2 {K:W.Frag}{n m:Str}:∀(x:V) (H:Hp) (vs:List V),tB2 K x H vs->vs.length=[n,m].length:=fun _ _ _ ⟨_,_,_,_,_,h⟩=>congrArg List.length h
section
end
theorem Vt {xs:List PV}{y:PV} (h:xs.length<1000000):pApp (.lst xs) y=.ok (.lst (xs++[y])):=if_pos h
theorem Zmx:ZkA (.int 10) (.int 62)=.ok (.int (10^62)):=by rw[Zco (by decide)];rfl
theorem Zmy:ZkA (.int 10) (.int 61)=.ok (.int (10^61)):=by rw[Zco (by decide)];rfl
theorem ZgY {i j:Int}:ZgZ [.int i,.int j]=.ok (.int (if j>i then j else i)):=rfl
theorem ZmF {a b:PV}:asT 2 (.tup [a,b])=.ok [a,b]:=rfl
noncomputable def Znf:Nat:=4000000
def ZlO (i j:Int):Prop:=i.natAbs<2^Znf/\j.natAbs<2^Znf
noncomputable instance (i j:Int):Decidable (ZlO i j):=by unfold ZlO;infer_instance
end L2
namespace Att
open PySem PySem.W PySem.Calls PyProof.Rows
end Att
namespace L2
open PySem PySem.Spec PyProof.Rows
section
end
noncomputable def okE (x:PV):Bool:=x.noX&&x.dat.canLay0&&decide (x.dat.depth<=60)
noncomputable def Zmn (K:W.Frag) (g:Bool->Bool):R2:=fun x y H Q=>∃p qs a vs,Rep K H (fun _=>True) p x/\y=.ref a/\(SqL K H a vs\/SqT K H a vs)/\Reps K H (fun _=>True) qs vs/\okE p=true/\(qs.all okE)=true/\Q (.bl (g (qs.any fun q=>PyData.eqv q.dat p.dat))) H
open Classical in
noncomputable def Zey (h:Heap) (dx:PyData) (y:Value):Bool:=if hy:∃d as,Reads h y d as/\d.canLay0=true/\d.depth<=60 then PyData.eqv hy.choose dx else false
section
variable {X:Cx}{K:W.Frag}
theorem ZbI {H:Hp}{pins:List (Addr×Obj)}{σ:St}{s:Shared}{S:Addr->Prop} (I:Inv X pins σ H s) (dx:PyData):∀{qs:List PV}{vs:List V}{us:List Value},Reps X.K H S qs vs->ZX vs us->(qs.all okE)=true ->
  (us.any (Zey s.heap dx)=qs.any fun q=>PyData.eqv q.dat dx)/\∀y∈us,∃d as,Reads s.heap y d as/\d.canLay0=true/\d.depth<=60
 |[],_,us,h,r,_=>by
  rw[h] at r;cases r
  exact⟨rfl,by simp⟩
 |q::qs,_,us,h,r,hk=>by
  obtain⟨v,vs,rfl,h1,h2⟩:=h
  simp only[List.all_cons,Bool.and_eq_true] at hk
  cases r with
  |cons r1 r2 =>
   rename_i u us
   obtain⟨e1,e2⟩:=ZbI I dx h2 r2 hk.2
   have h3:=hk.1
   simp only[okE,Bool.and_eq_true,decide_eq_true_eq] at h3
   obtain⟨as,ra⟩:=h1.reads I h3.1.1 r1
   have hx:∃d as,Reads s.heap u d as/\d.canLay0=true/\d.depth<=60:=⟨_,_,ra,h3.1.2,h3.2⟩
   refine⟨?_,fun y hy=>?_⟩
   ·have:Zey s.heap dx u=PyData.eqv q.dat dx:=by
     unfold Zey
     rw[dif_pos hx]
     obtain⟨as',ra',c1,c2⟩:=hx.choose_spec
     rw[SeqAt.Reads.unique _ _ _ _ _ c1 ra' ra]
    rw[Zul,Zul,e1,this]
   ·rcases ZsZ.mp hy with rfl|hy
    ·exact hx
    ·exact e2 y hy
theorem Zli {H:Hp}{pins:List (Addr×Obj)}{σ:St}{s:Shared}{g:Bool->Bool}{x y:V}{v u:Value}{Q:VK} (I:Inv X pins σ H s) (hu:X.A.units+64<cLine) (rx:Jo x v) (ry:Jo y u) (h:Zmn X.K g x y H Q) :
  ∃a items,u=.ref a/\(s.heap.IsList a items\/s.heap.IsTuple a items)/\∃e:Value->Bool,(∀y,y∈items->SeqAt.EqAt X.A.in1 s y v (e y))/\Q (.bl (g (items.any e))) H:=by
 obtain⟨p,qs,a,vs,h1,rfl,hq,hr,h3,h4,q⟩:=h
 cases ry
 simp only[okE,Bool.and_eq_true,decide_eq_true_eq] at h3
 obtain⟨as,ra⟩:=h1.reads I h3.1.1 rx
 have fin:∀its:List Value,ZX vs its->(∀y,y∈its.toArray->SeqAt.EqAt X.A.in1 s y v (Zey s.heap p.dat y))/\Q (.bl (g (its.toArray.any (Zey s.heap p.dat)))) H:=fun its rv=>by
  obtain⟨e1,e2⟩:=ZbI I p.dat hr rv h4
  refine⟨fun y hy=>?_, ?_⟩
  ·have hx:=e2 y (by simpa using hy)
   unfold Zey
   rw[dif_pos hx]
   obtain⟨as',ra',c1,c2⟩:=hx.choose_spec
   refine SeqAt.eqAt_reads _ _ _ _ _ _ _ _ ra' ra c1 h3.1.2 ?_
   have:=ZuE hx.choose.depth p.dat.depth
   have hin:X.A.in1.units<=X.A.units+1:=by simp[Around.in1]
   omega
  ·rw[List.any_toArray,e1];exact q
 rcases hq with hq|hq
 ·obtain⟨its,rv,pl,hz⟩:=I.list hq
  obtain⟨f1,f2⟩:=fin its rv
  exact⟨a,its.toArray,rfl,.inl pl.isList,_,f1,f2⟩
 ·obtain⟨its,rv,pl,hz⟩:=I.tuple hq
  obtain⟨f1,f2⟩:=fin its rv
  exact⟨a,its.toArray,rfl,.inr pl,_,f1,f2⟩
theorem Zfx (hu:X.A.units+64<cLine) (e:X.K=K:=by rfl):OpR X (compareOp .NotIn) (Zmn K (!·)):=by
 subst e
 intro pins s σ H x y v u Q I rx ry h
 obtain⟨a,items,rfl,hl,e,he,q⟩:=Zli I hu rx ry h
 rcases hl with hl|hl
 ·exact SeqAt.notIn_listAt e hl he ⟨.bl _,H,I,rfl,q⟩
 ·exact SeqAt.notIn_tupleAt e hl he ⟨.bl _,H,I,rfl,q⟩
end
noncomputable def ZjU (g:Bool->Bool) (x y:PV):Rr PV:=match y with
 |.lst ys=>if (okE x&&ys.all okE)=true then .ok (.bl (g (ys.any fun q=>PyData.eqv q.dat x.dat))) else .bad
 |.tup ys=>if (okE x&&ys.all okE)=true then .ok (.bl (g (ys.any fun q=>PyData.eqv q.dat x.dat))) else .bad
 |_=>.bad
section
variable {K:W.Frag}{EX:PX->Hp->Prop}{Γ Γ1 Γ2:List Md}{tb tc:TE}{fb fc:List PV->Rr PV}
theorem Zl7 {g:Bool->Bool} (ha:DE K EX Γ Γ1 .A tb fb) (hb:DE K EX Γ1 Γ2 .A tc fc):DE K EX Γ Γ2 .P (tOp (Zmn K g) tb tc) (fun ρ=>(fb ρ).bind fun x=>(fc ρ).bind fun y=>ZjU g x y):=by
 refine Zge (fun {H x y v w Q} rx ry ⟨z,e,q⟩=>?_) (fun x y z h=>?_) (fun x y e h=>?_) ha hb
 ·unfold ZjU at e
  split at e
  ·split at e
   ·rename_i ys hk
    cases e
    rw[Bool.and_eq_true] at hk
    obtain⟨a,vs,rfl,hn,hr⟩:=ry
    exact⟨x,_,a,vs,rx,rfl,.inl (V5 (S:=fun _=>True) hn),hr,hk.1,hk.2,q rfl _ rfl⟩
   ·cases e
  ·split at e
   ·rename_i ys hk
    cases e
    rw[Bool.and_eq_true] at hk
    obtain⟨a,vs,rfl,hn,hr⟩:=ry
    exact⟨x,_,a,vs,rx,rfl,.inr hn.sqT,hr,hk.1,hk.2,q rfl _ rfl⟩
   ·cases e
  ·cases e
 ·unfold ZjU at h
  split at h
  ·split at h<;>cases h;rfl
  ·split at h<;>cases h;rfl
  ·cases h
 ·unfold ZjU at h
  split at h
  ·split at h<;>cases h
  ·split at h<;>cases h
  ·cases h
end
section
end
theorem ZiL {X:Cx}{K:W.Frag}{tg l:Expr}{tl:TE} (hl:PE X l tl) (e:X.K=K:=by rfl):PI X tg l (Zm4 K tl):=by subst e;exact Zk3 hl
noncomputable def Znc (x:PV):Rr (List PV):=match x with
 |.tup xs=>.ok xs
 |_=>.bad
section
variable {K:W.Frag}{H:Hp}{EX:PX->Hp->Prop}{Γ Γ':List Md}{te:TE}{f:List PV->Rr PV}
theorem Zjl {a:Addr}{xs:List PV}{S:Addr->Prop} (h:Rep K H S (.tup xs) (.ref a)):ItP K S (Itt K a) xs H:=by
 obtain⟨a',vs,e,hn,hr⟩:=h
 cases e
 intro i
 constructor
 ·intro x hx
  obtain⟨u,e1,e2⟩:=hr.get hx
  refine⟨⟨vs,u,hn.sqT,e1⟩,fun v H' ⟨e,y⟩=>?_⟩
  subst e
  have:=y vs hn.sqT
  rw[e1] at this;cases this
  exact⟨Zw.refl _,e2⟩
 ·intro hx
  exact⟨vs,hn.sqT,by rw[hr.length];exact Zt3.mp hx⟩
theorem Zly (he:DE K EX Γ Γ' .Z te f):DI K EX Γ Γ' (Zm4 K te) (fun ρ=>(f ρ).bind Znc):=fun B H0 H σ ρ F R Q A d=>by
 refine he B H0 H σ ρ F R _ A (d.bind.imp (fun x _ d v H1 s1 r1=>?_) fun e q=>q)
 obtain⟨F1,f1,p1,A1⟩:=r1
 cases x with
 |tup xs =>
  obtain⟨a,vs,rfl,hn,hr⟩:=id p1
  exact⟨a,rfl,⟨vs,hn.sqT⟩,d _ H1 F1 s1 f1 A1 fun H2 F2 h=>Zjl (p1.frm h A1)⟩
 |_=>exact d.elim
end
noncomputable def Zd1 (p q:Int->Int->Bool) (x y:PV) (r:Rr PV):Rr PV:=match x,y with
 |.int i,.int j=>if p i j=true then r.bind fun z=>oI (fun _ _=>true) (fun i j=>.bl (q i j)) (.int j) z else .ok (.bl false)
 |_,_=>.bad
theorem Zfv {p q:Int->Int->Bool}{i j k:Int}:Zd1 p q (.int i) (.int j) (.ok (.int k))=.ok (.bl (p i j&&q j k)):=by
 simp only[Zd1,Rr.bind_ok,oI,if_true]
 cases p i j<;>simp
section
variable {K:W.Frag}{B:Addr->Prop}{EX:PX->Hp->Prop}{H0 H H':Hp}{σ:St}{Γ Γ1 Γ2:List Md}{ρ:List PV}{F F':Nat->List Addr}{R:List Addr}{k:Nat}{x:PV}{v:V}{ta tb tc:TE}{fa fb fc:List PV->Rr PV}{hb:PV->Rr (List PV)}
theorem ZhF {p q:Int->Int->Bool} (ha:DE K EX Γ Γ1 .A ta fa) (hb:DE K EX Γ1 Γ2 .A tb fb) (hc:DE K EX Γ2 Γ2 .A tc fc) :
  DE K EX Γ Γ2 .P (ZhY (rI0 fun i j=>.bl (p i j)) (rI0 fun i j=>.bl (q i j)) ta tb tc) (fun ρ=>(fa ρ).bind fun x=>(fb ρ).bind fun y=>Zd1 p q x y (fc ρ)):=fun B H0 H σ ρ F R Q A d=>by
 refine two (Q:=fun v w H2=>(rI0 fun i j=>.bl (p i j)) v w H2 fun z H3=>∃k,z=.bl k/\(if k=true then tc σ H3 fun w' H4=>(rI0 fun i j=>.bl (q i j)) w w' H4 Q else Q (.bl false) H3)) ha hb A d.bind2 fun x y v w H' F' d s hF p1 p2 A'=>?_
 cases x<;>cases y<;>first|exact d.elim|skip
 rename_i i j
 cases p1;cases p2
 refine⟨i,j,rfl,rfl,_,rfl, ?_⟩
 simp only[Zd1] at d
 by_cases h:p i j=true
 ·rw[if_pos h] at d ⊢
  refine hc B H0 H' σ ρ F' R _ A' (d.bind.imp (fun z _ d u H3 s3 r3=>?_) fun e q=>q)
  obtain⟨F3,f3,p3,A3⟩:=r3
  cases z<;>first|exact d.elim|skip
  cases p3
  exact⟨j,_,rfl,rfl,d _ H3 (s.trans s3) ⟨F3,fun i a h=>hF i a (f3 i a h),rfl,rfl,A3⟩⟩
 ·rw[if_neg h] at d ⊢
  exact d _ H' s ⟨F',hF,rfl,rfl,A'⟩
end
theorem VO {xs:List PV}:Zg5 [.lst xs]=.ok (.int xs.length):=by simp[Zg5]
theorem ZiS {xs:List PV}{k:Int} (h0:0<=k) (h1:k<xs.length):pIx (.lst xs) (.int k)=.ok (xs.getD k.toNat .non):=by
 simp only[pIx,atI,ZdE h0 h1,Option.bind_some]
 rw[ZsO,ZsP (by omega)]
 rfl
section
end
structure Dat (n:Nat) (x:PV):Prop where
 nx:x.noX=true
 can:x.dat.canLay0=true
 dep:x.dat.depth<=n
theorem Dat.ok {n:Nat}{x:PV} (h:Dat n x) (hn:n<=64:=by decide):okD x=true:=by
 unfold okD
 rw[h.nx,h.can,decide_eq_true (Ztu h.dep hn)];rfl
theorem Zgj (i:Int):Dat 0 (.int i):=⟨rfl,by simp[PV.dat,PyData.canLay0],by simp[PV.dat,PyData.depth]⟩
theorem ZaV {n:Nat}:∀{xs:List PV},(∀x∈xs,Dat n x)->PV.noXs xs=true/\PyData.canLayAll0 (PV.dats xs)=true/\PyData.depthAll (PV.dats xs)<=n
 |[],_=>⟨rfl,rfl,Ztp _⟩
 |x::xs,h=>by
  obtain⟨h1,h2,h3⟩:=ZaV (xs:=xs) fun y hy=>h y (by simp[hy])
  have hx:=h x (by simp)
  refine⟨by simp[PV.noXs,hx.nx,h1],by simp[PV.dats,PyData.canLayAll0,hx.can,h2], ?_⟩
  simp only[PV.dats,PyData.depthAll]
  exact Nat.max_le.mpr ⟨hx.dep,h3⟩
theorem ZaX {n:Nat}{xs:List PV} (h:∀x∈xs,Dat n x):Dat (n+1) (.lst xs):=by
 obtain⟨h1,h2,h3⟩:=ZaV h
 exact⟨by simp[PV.noX,h1],by simp[PV.dat,PyData.canLay0,h2],by simp only[PV.dat,PyData.depth];omega⟩
theorem Zgi {n:Nat}{xs:List PV} (h:∀x∈xs,Dat n x):Dat (n+1) (.tup xs):=by
 obtain⟨h1,h2,h3⟩:=ZaV h
 exact⟨by simp[PV.noX,h1],by simp[PV.dat,PyData.canLay0,h2],by simp only[PV.dat,PyData.depth];omega⟩
theorem Dat.up {m n:Nat}{x:PV} (h:Dat m x) (hn:m<=n):Dat n x:=⟨h.nx,h.can,Ztu h.dep hn⟩
theorem UC (ns:List Int):Dat 1 (.lst (ns.map PV.int)):=ZaX fun x hx=>by
 obtain⟨i,_,rfl⟩:=Ztm.mp hx
 exact Zgj i
theorem ZjB {a:Str} (h:PyData.canLay0 (.str a)=true):Dat 0 (.str a):=⟨rfl,h,by simp[PV.dat,PyData.depth]⟩
theorem ZaR {f:PV->Rr (Option PV)}{p:Nat->Bool}{g:Nat->PV}{lo:Int}{n:Nat} (h:∀i,i<n->f (.int (lo+(i:Nat)))=.ok (if p i=true then some (g i) else none)):ZbW f (Zci lo n)=.ok (((List.range n).filter p).map g):=by
 have key:∀(l:List Nat),(∀i∈l,i<n)->ZbW f (l.map fun(i:Nat)=>PV.int (lo+i))=.ok ((l.filter p).map g):=by
  intro l
  induction l with
  |nil=>intro _;rfl
  |cons a l ih =>
   intro hl
   simp only[Ztg,ZbW,h a (hl a (by simp)),Rr.bind_ok,ih fun i hi=>hl i (by simp[hi])]
   cases hp:p a<;>simp[hp,List.filter_cons]
 exact key _ fun i hi=>Ztv.mp hi
theorem Zbx {α:Type}{q:α->PV}{L:List α}{k:Int}{d:α} (h0:0<=k) (h1:k<L.length):pIx (.lst (L.map q)) (.int k)=.ok (q (L.getD k.toNat d)):=by
 rw[ZiS h0 (by simpa using h1),ZsO,ZsO,Ztf,ZsP (by omega)]
 rfl
section
end
theorem us1 {α:Type}{us:List α} (h:us.length=1):∃a,us=[a]:=match us,h with | [a],_=>⟨a,rfl⟩
theorem us2 {α:Type}{us:List α} (h:us.length=2):∃a b,us=[a,b]:=match us,h with | [a,b],_=>⟨a,b,rfl⟩
theorem us3 {α:Type}{us:List α} (h:us.length=3):∃a b c,us=[a,b,c]:=match us,h with | [a,b,c],_=>⟨a,b,c,rfl⟩
theorem us5 {α:Type}{us:List α} (h:us.length=5):∃a b c d e,us=[a,b,c,d,e]:=match us,h with | [a,b,c,d,e],_=>⟨a,b,c,d,e,rfl⟩
section
variable {K:W.Frag}{H:Hp}{S:Addr->Prop}
theorem Reps.rev:∀{xs:List PV}{vs:List V},Reps K H S xs vs->Reps K H S xs.reverse vs.reverse
 |[],_,h=>by rw[h];exact rfl
 |x::xs,_,h=>by
  obtain⟨v,r,rfl,h1,h2⟩:=h
  rw[Zuk,Zuk]
  exact Reps.append (Reps.rev h2) (Reps.one h1)
end
theorem Dat.okE {n:Nat}{x:PV} (h:Dat n x) (hn:n<=60:=by decide):okE x=true:=by
 unfold L2.okE
 rw[h.nx,h.can,decide_eq_true (Ztu h.dep hn)];rfl
theorem Zel {g:Bool->Bool}{l:List Int}{M:List (List Int)}:ZjU g (.lst (l.map PV.int)) (.lst (M.map fun q=>.lst (q.map PV.int)))=.ok (.bl (g (decide (l∈M)))):=by
 have h1:(okE (.lst (l.map PV.int))&&(M.map fun q=>PV.lst (q.map PV.int)).all okE)=true:=by
  rw[(UC l).okE,Bool.true_and,ZtD]
  intro x hx
  obtain⟨q,_,rfl⟩:=Ztm.mp hx
  exact(UC q).okE
 simp only[ZjU]
 rw[if_pos h1]
 congr 3
 induction M with
 |nil=>simp
 |cons q M ih =>
  have h2:(okE (.lst (l.map PV.int))&&(M.map fun q=>PV.lst (q.map PV.int)).all okE)=true:=by
   rw[(UC l).okE,Bool.true_and,ZtD]
   intro x hx
   obtain⟨q,_,rfl⟩:=Ztm.mp hx
   exact(UC q).okE
  rw[Ztg,Zul,ih h2]
  simp only[PV.dat,UB,PyData.eqv,Vw]
  by_cases c:q=l
  ·simp[c]
  ·have:¬l=q:=fun z=>c z.symm
   simp[c,this]
section
end
noncomputable abbrev PL2:=Addr×List Int
section
end
noncomputable def Jy (t:List Int):PV:=.lst (t.map PV.int)
theorem Zf8 {a b:List (List Int)} (h:a.map Jy=b.map Jy):a=b:=by
 induction a generalizing b with
 |nil=>cases b with
  |nil=>rfl
  |cons x b=>simp at h
 |cons x a ih=>cases b with
  |nil=>simp at h
  |cons y b =>
   simp only[Ztg,List.cons.injEq,Jy,PV.lst.injEq] at h
   rw[Jh h.1,ih h.2]
section
variable {K:W.Frag}{B:Addr->Prop}{EX:PX->Hp->Prop}{H0 H:Hp}{σ:St}{Γ Γ1 Γ2:List Md}{ρ:List PV}{F:Nat->List Addr}{R:List Addr}{te tb:TE}{fb:List PV->Rr PV}
theorem Zdc:∀{xs:List PV}{vs:List V}{G:List Addr}{n:Nat}{z:PV},Trees K H xs vs G->xs[n]?=some z->∃u G',vs[n]?=some u/\ZW K H z u G'/\∀a∈G',a∈G
 |[],_,_,n,z,_,e=>by simp at e
 |x::xs,vs,G,n,z,h,e=>by
  obtain⟨v,r,G1,G2,rfl,h1,h2,h3,rfl⟩:=h
  cases n with
  |zero=>simp at e;subst e;exact⟨v,G1,by simp,h1,fun a ha=>ZsW _ ha⟩
  |succ n =>
   obtain⟨u,G',e1,e2,e3⟩:=Zdc (n:=n) h2 (by simpa using e)
   exact⟨u,G',by simpa using e1,e2,fun a ha=>ZsT _ (e3 a ha)⟩
theorem Zdb:∀{xs:List PV}{vs:List V}{G:List Addr},Trees K H xs vs G->vs.length=xs.length
 |[],_,_,h=>by rw[h.1];rfl
 |x::xs,vs,G,h=>by
  obtain⟨v,r,G1,G2,rfl,h1,h2,h3,rfl⟩:=h
  simp[Zdb h2]
theorem ZgC {xs:List PV}{vs:List V}{G:List Addr}{i:Int}{z:PV} (h:Trees K H xs vs G) (e:atI xs i=some z):∃u G',atI vs i=some u/\ZW K H z u G'/\∀a∈G',a∈G:=by
 unfold atI at e ⊢
 rw[Zdb h]
 cases hk:ixN xs.length i with
 |none=>rw[hk] at e;cases e
 |some k =>
  rw[hk] at e
  obtain⟨u,G',e1,e2,e3⟩:=Zdc (n:=k) h e
  exact⟨u,G',e1,e2,e3⟩
noncomputable def ZlS (x y:PV):Rr PV:=match x,y with
 |.tup xs,.int i=>match atI xs i with
  |some z=>.ok z
  |none=>.bad
 |_,_=>.bad
theorem Zis {te ta':TE}{fa':List PV->Rr PV} (ha:DE K EX Γ Γ1 .F ta' fa') (hb:DE K EX Γ1 Γ2 .A tb fb):DE K EX Γ Γ2 .F (tOp (rIx K) ta' tb) (fun ρ=>(fa' ρ).bind fun x=>(fb ρ).bind fun y=>ZlS x y):=fun B H0 H σ ρ F R Q A d=>by
 refine ha B H0 H σ ρ F R _ A (d.bind.imp (fun x _ d v H1 s1 r1=>?_) fun e q=>q)
 obtain⟨F1,f1,G,t1,o1,A1⟩:=r1
 refine hb B H0 H1 σ ρ F1 (G++R) _ A1 (d.bind.imp (fun y _ d w H2 s2 r2=>?_) fun e q=>q)
 obtain⟨F2,f2,p2,A2⟩:=r2
 cases x with
 |tup xs =>
  cases y with
  |int i =>
   cases p2
   have t2:=t1.same s2
   obtain⟨a,vs,rfl,hq,ht⟩:=t2
   unfold ZlS at d
   cases e1:atI xs i with
   |none=>simp only[e1] at d;exact d.elim
   |some z =>
    simp only[e1] at d
    obtain⟨u,G',e2,e3,e4⟩:=ZgC ht e1
    exact .inr (.inl ⟨a,vs,i,u,rfl,rfl,hq.sqT,e2,d u H2 (s1.trans s2) ⟨F2,fun i a h=>f1 i a (f2 i a h),G',e3,fun b hb=>o1 b (e4 b hb),A2.less fun b hb=>by
     rcases ZsS.mp hb with z|z
     ·exact ZsW _ (e4 b z)
     ·exact ZsT _ z⟩⟩)
  |_=>exact d.elim
 |_=>exact d.elim
theorem ZkG {x:PV}{xs:List PV}:ZlS (.tup (x::xs)) (.int 0)=.ok x:=by simp[ZlS,atI,ixN]
end
theorem Zmu {g:Bool->Bool}{m n:Nat}{x y:PV} (hx:Dat m x) (hy:Dat n y) (h1:m<=64:=by decide) (h2:n<=64:=by decide):Zam g x y=.ok (.bl (g (PyData.eqv x.dat y.dat))):=by
 unfold Zam
 rw[hx.ok h1,hy.ok h2,Bool.and_self,if_pos rfl]
theorem ZdH {α:Type} [DecidableEq α] {q:α->PV} (h:∀a b,PyData.eqv (q a).dat (q b).dat=decide (a=b)):∀L M:List α,PyData.eqvAll (PV.dats (L.map q)) (PV.dats (M.map q))=decide (L=M)
 |[],[]=>by simp[PV.dats,PyData.eqvAll]
 |[],b::M=>by simp[PV.dats,PyData.eqvAll]
 |a::L,[]=>by simp[PV.dats,PyData.eqvAll]
 |a::L,b::M=>by
  simp only[Ztg,PV.dats,PyData.eqvAll,h a b,ZdH h L M,List.cons.injEq]
  by_cases c:a=b<;>by_cases d:L=M<;>simp[c,d]
theorem Zh4 (a b:List Int):PyData.eqv (Jy a).dat (Jy b).dat=decide (a=b):=by
 simp only[Jy,PV.dat,UB,PyData.eqv,Vw]
theorem ZaW (M:List (List Int)):Dat 2 (.lst (M.map Jy)):=ZaX fun x hx=>by
 obtain⟨q,_,rfl⟩:=Ztm.mp hx
 exact UC q
theorem Qr {g:Bool->Bool} (L M:List (List Int)):Zam g (.lst (L.map Jy)) (.lst (M.map Jy))=.ok (.bl (g (decide (L=M)))):=by
 rw[Zmu (ZaW L) (ZaW M)]
 simp only[PV.dat,PyData.eqv,ZdH Zh4]
theorem ZfS {α:Type}{f:PV->Rr (Option PV)}{q:α->PV}{p:α->Bool}{g:α->PV}{L:List α} (h:∀x∈L,f (q x)=.ok (if p x=true then some (g x) else none)):ZbW f (L.map q)=.ok ((L.filter p).map g):=by
 induction L with
 |nil=>rfl
 |cons a l ih =>
  simp only[Ztg,ZbW,h a (by simp),Rr.bind_ok,ih fun z hz=>h z (by simp[hz])]
  cases hp:p a<;>simp[hp,List.filter_cons]
noncomputable def minus (H:Hp) (G:List Addr):Hp:=fun a=>if a∈G then none else H a
theorem Qt {H:Hp}{G:List Addr}{a:Addr} (h:a∈G):minus H G a=none:=if_pos h
theorem ZL {H:Hp}{G:List Addr}{a:Addr} (h:a ∉ G):minus H G a=H a:=if_neg h
theorem Zap {H:Hp}{G:List Addr}:Zw (minus H G) H:=fun a o h=>by
 unfold minus at h
 split at h
 ·cases h
 ·exact h
theorem Rd.minus {H:Hp}{G:List Addr}{a:Addr}{u:HO} (h:Rd H a u) (n:a ∉ G):Rd (minus H G) a u:=by
 rcases h with h|⟨o,h⟩
 ·exact .inl (by rw[ZL n];exact h)
 ·exact .inr ⟨o,by rw[ZL n];exact h⟩
theorem Im.minus {K:W.Frag}{H:Hp}{G:List Addr}{a:Addr}{k:HO} (hG:∀b∈G,∃vs:LvO,H b=some vs.1) (h:Im K H a k):Im K (minus H G) a k:=by
 refine⟨?_,h.2⟩
 rw[ZL fun z=>?_]
 ·exact h.1
 ·obtain⟨vs,q⟩:=hG a z
  exact ZaO vs.2 h.2 (by rw[h.1] at q;exact Option.some.inj q)
noncomputable def spC (K:W.Frag) (n:Nat) (m:List PV->Rr PV):Sp:=fun vs H Q E=>∃(B:Addr->Prop) (x:PV) (xs:List PV) (v:V) (us:List V) (G:List Addr),vs=v::us/\ZW K H x v G/\Reps K H B xs us/\(∀a,B a->a ∉ G)/\xs.length+1=n /\
 Dn (m (x::xs)) (fun y=>∀u H',Zw (minus H G) H'->Zg8 K B (minus H G) .P y u H'->Q u H') (fun _=>False)
section
variable {K:W.Frag}{B:Addr->Prop}{H0 H H':Hp}{σ:St}{Γ:List Md}{ρ:List PV}{F:Nat->List Addr}
theorem Ag.initC {x:PV}{v:V}{G:List Addr}{xs:List PV}{vs:List V}{n:Nat} (ht:ZW K H x v G) (h:Reps K H B xs vs) (hB:∀a,B a->a ∉ G):Ag K (fun a=>B a\/minus H G a=none) (minus H G) H (some v::(vs.map some++List.replicate n none)) (.O::(List.replicate xs.length .S++List.replicate n .U)) (x::(xs++List.replicate n .non)) (JS (fun _=>[]) 0 G) []:=by
 have fin:∀i,∀a∈JS (fun _=>[]) 0 G i,i=0/\a∈G:=fun i a ha=>by
  unfold JS at ha
  split at ha
  ·exact⟨by assumption,ha⟩
  ·simp at ha
 refine⟨Zap,fun a h=>.inr h,fun i a ha=>Qt (fin i a ha).2,by simp,fun i a ha=>ht.alive a (fin i a ha).2,by simp,fun i j hij a ha z=>hij ((fin i a ha).1.trans (fin j a z).1.symm),by simp,by simp[h.length],by simp,fun i=>?_⟩
 cases i with
 |zero =>
  rw[Zp]
  exact⟨v,rfl,ht⟩
 |succ i =>
  rw[Zs (by omega)]
  simp only[ZuH,Zut]
  have A:=(Ag.init (n:=n) h).slot i
  refine A.mono (fun a vs s r=>⟨r, ?_⟩) (fun a vs r=>r) (fun a ha=>by cases ha)
  refine⟨?_,by simp,fun j z=>?_⟩
  ·rcases s.1 with s|s
   ·exact .inl s
   ·exact .inr (by
     by_cases q:a∈G
     ·exact Qt q
     ·rw[ZL q];exact s)
  ·have z:=(fin j a z).2
   rcases s.1 with s|s
   ·exact hB a s z
   ·obtain⟨vs,q⟩:=ht.alive a z
    rw[s] at q;cases q
theorem Ag.lost {G:List Addr} (A:Ag K B H0 H σ Γ ρ F (G++[])) (s:Zw (minus H G) H'):Ag K B H0 H' σ Γ ρ F []:=by
 have hG:∀b∈G,∃vs:LvO,H b=some vs.1:=fun b hb=>A.liveR b (by simp[hb])
 refine⟨fun a o h=>s a o ?_,A.own,A.young,by simp,fun i a ha=>?_,by simp,A.disj,by simp,A.lenS,A.lenR,fun i=>?_⟩
 ·rw[ZL (fun z=>by have:=A.youngR a (by simp[z]);rw[h] at this;cases this)]
  exact A.same a o h
 ·obtain⟨vs,q⟩:=A.live i a ha
  exact⟨vs,s _ _ (by rw[ZL (fun z=>A.disjR i a ha (by simp[z]))];exact q)⟩
 ·refine(A.slot i).mono (fun a vs n r=>⟨(r.minus (fun z=>n.2.1 (by simp[z]))).same s,n.1,by simp,n.2.2⟩) (fun a vs r=>s.im (r.minus hG)) fun a ha vs q=>s _ _ (by rw[ZL (fun z=>A.disjR i a ha (by simp[z]))];exact q)
end
section
variable {P:Program}{w:World}{K:W.Frag}{mg:Str->Option Value}{base:Heap}
theorem Fun.okC {x qual:Str}{st:Stmt}{f:Addr}{fd:FuncData}{N ps:List Str}{k n l:Nat}{m:List PV->Rr PV} (F:Fun K x qual st f fd) (S:Zx N ps (Zg st)) (hn:ps.length=n+1) (hl:N.length-(n+1)=l)
  (hbody:∀(cdv:Value) (A:Around) (outer:List Env) (s:Shared) (H:Hp) (E:XK),Qc k (A.deeper (envOfC qual (Zg st) s.heap.objs.size f cdv)) ->
   ∃t g Y,Y.r=.P/\PSs (Zbg CX0 P w K mg base N qual (Zg st) f cdv A outer s H E).nox (Zt st) t/\DS K X0 (.O::(List.replicate n .S++List.replicate l .U)) Y t g/\∀xs,Ref (m xs) (g (xs++List.replicate l .non)).out) :
  JT P w K mg base CX0 (k+1) f fd ps (spC K (n+1) m):=by
 refine F.ok S (fun vs H Q E h=>?_) (fun cdv A outer s H vs Q E hr h=>?_)
 ·obtain⟨B,x,xs,v,us,G,rfl,h0,h1,h2,h3,_⟩:=h
  rw[Ztl,h1.length,h3,hn]
 ·obtain⟨B,x,xs,v,us,G,rfl,h0,h1,h2,h3,dn⟩:=h
  obtain⟨t,g,Y,hY,ht,hd,href⟩:=hbody cdv A outer s H E hr
  refine⟨t,ht, ?_⟩
  have A0:=Ag.initC (n:=l) h0 h1 h2
  have est:VY N (v::us)=some v::(us.map some++List.replicate l none):=by
   unfold VY
   rw[Ztl,h1.length,h3,hl]
   rfl
  rw[est]
  rw[show xs.length=n by omega] at A0
  refine hd _ (minus H G) H _ _ _ _ A0 ?_
  have hdn:Dn (g (x::(xs++List.replicate l .non))).out (fun x=>∀v H',Zw (minus H G) H'->Zg8 K B (minus H G) .P x v H'->Q v H') (fun e=>False):=by
   rcases href (x::xs) with e|e
   ·rw[e] at dn;exact dn.elim
   ·rw[Zue] at e;rw[<- e];exact dn
  cases e:g (x::(xs++List.replicate l .non)) with
  |next ρ =>
   rw[e] at hdn
   exact fun σ' H' F' fr A'=>hdn .non H' A'.same ⟨rfl,rfl⟩
  |ret y =>
   rw[e] at hdn
   refine fun v H' s r=>hdn v H' s ?_
   rw[hY] at r
   exact r
  |exc q=>rw[e] at hdn;exact hdn.elim
  |brk ρ=>rw[e] at hdn;exact hdn.elim
  |cont ρ=>rw[e] at hdn;exact hdn.elim
  |bad=>rw[e] at hdn;exact hdn.elim
end
def DTS (K:W.Frag) (EX:PX->Hp->Prop) (Γ Γ':List Md) (tt:TT) (f:List PV->Rr Bool):Prop:=
 ∀(B:Addr->Prop) (H0 H:Hp) (σ:St) (ρ:List PV) (F:Nat->List Addr) (Q:Bool->Hp->Prop),Ag K B H0 H σ Γ ρ F [] ->
  Dn (f ρ) (fun b=>∀H' F',Frm H F H' F'->Ag K B H0 H' σ Γ' ρ F' []->Q b H') (fun e=>∀H',Zw H0 H'->EX e H')->tt σ H Q
section
variable {K:W.Frag}{EX:PX->Hp->Prop}{Γ Γ':List Md}{c d:TT}{fc:List PV->Rr Bool}{ta:TA}{fa:List PV->Rr (List PV)}{Y:Tys}{t u:TS}{g g':List PV->RS}{n:Nat}{m:List PV->Rr PV}
theorem Zjy (h:DTS K EX Γ Γ' c fc):DTS K EX Γ Γ' (Zmj c) (fun ρ=>(fc ρ).bind fun b=>.ok (!b)):=fun B H0 H σ ρ F Q A dn =>
 h B H0 H σ ρ F _ A (dn.bind.imp (fun b _ dn H1 F1 s1 A1=>dn H1 F1 s1 A1) fun e q=>q)
theorem Zh6 {i:Nat} (hm:Γ[i]?=some .O) (hn:Len fa n) (ha:DAZ K X0 (Γ.set i .U) Γ' ta fa):DTS K X0 Γ Γ' (tB (UV (spC K (n+1) m) (VX (QW i) ta))) (fun ρ=>(fa ρ).bind fun xs=>(m (gv i ρ::xs)).bind asB):=fun B H0 H σ ρ F Q A dn=>by
 obtain⟨v,h1,h2⟩:=A.getO hm
 refine⟨v,h1,ha B H0 H σ ρ _ (F i++[]) _ (A.move hm) (dn.bind.imp (fun xs hx dn us H1 F1 s1 f1 p1 A1=>?_) fun e q=>q)⟩
 refine⟨NO B F1 (F i++[]),gv i ρ,xs,v,us,F i,rfl,h2.same s1,p1,fun a ha z=>ha.2.1 (by simp[z]),by rw[hn ρ xs hx], ?_⟩
 have dn2:=dn.bind
 cases e:m (gv i ρ::xs) with
 |bad=>rw[e] at dn2;exact dn2.elim
 |exc q=>rw[e] at dn2;exact(dn2 H0 (Zw.refl _)).elim
 |ok y =>
  rw[e] at dn2
  obtain⟨b,rfl,d⟩:=Dn.asB dn2
  refine fun u H' s r=>?_
  cases r.2
  refine⟨b,rfl,d H' F1 (fun a o h n=>?_) (A1.lost s)⟩
  have na:a ∉ F i:=n i
  refine⟨s a o (by rw[ZL na];exact s1 a o h),fun j z=>?_⟩
  have:=f1 j a z
  unfold JS at this
  split at this
  ·simp at this
  ·exact n j this
theorem Zlw (hc:DTS K EX Γ Γ' c fc) (h1:DS K EX Γ' Y t g) (h2:DS K EX Γ' Y u g'):DS K EX Γ Y (ZlQ c t u) (fun ρ=>(fc ρ).thenS fun b=>if b=true then g ρ else g' ρ):=fun B H0 H σ ρ F D A d=>by
 refine hc B H0 H σ ρ F _ A (d.thenS.imp (fun b _ d H1 F1 s1 A1=>?_) fun e q=>q)
 cases b with
 |true=>exact h1 B H0 H1 σ ρ F1 D A1 (DnS.shift s1 d)
 |false=>exact h2 B H0 H1 σ ρ F1 D A1 (DnS.shift s1 d)
end
noncomputable def pGo (f:PV->Rr PV):PV->List Int->Rr PV
 |x,[]=>f x
 |.lst xs,c::cs=>match ixN xs.length c with
  |some n=>(pGo f (xs.getD n .non) cs).bind fun z=>.ok (.lst (xs.set n z))
  |none=>.bad
 |.tup xs,c::cs=>match ixN xs.length c with
  |some n=>(pGo f (xs.getD n .non) cs).bind fun z=>.ok (.tup (xs.set n z))
  |none=>.bad
 |_,_::_=>.bad
noncomputable def AtP (K:W.Frag) (H:Hp):V->List Int->V->Prop
 |v,[],u=>u=v
 |v,c::cs,u=>∃a vs w,v=.ref a/\(SqL K H a vs\/SqT K H a vs)/\atI vs c=some w/\AtP K H w cs u
section
variable {K:W.Frag}{H:Hp}
theorem AtP.snoc {u:V}{c:Int}:∀{cs:List Int}{v:V},AtP K H v (cs++[c]) u->∃w,AtP K H v cs w/\AtP K H w [c] u
 |[],v,h=>⟨v,rfl,h⟩
 |_::cs,v,h=>by
  obtain⟨a,vs,w,rfl,h1,h2,h3⟩:=h
  obtain⟨z,h4,h5⟩:=AtP.snoc h3
  exact⟨z,⟨a,vs,w,rfl,h1,h2,h4⟩,h5⟩
theorem Trees.part:∀{xs:List PV}{vs:List V}{G:List Addr}{j:Nat}{y:PV},Trees K H xs vs G->xs[j]?=some y->∃v G2,vs[j]?=some v/\ZW K H y v G2/\(∀a∈G2,a∈G) /\
  ∀(p:Addr) (us:List V) (o:HO) (y':PV) (G3:List Addr),H p=some (.lst us)->p∈G2->(∀a∈G3,a∈G2)->ZW K (upd H p o) y' v G3->∃G',(∀a∈G',a∈G)/\Trees K (upd H p o) (xs.set j y') vs G'
 |[],_,_,_,_,_,e=>by simp at e
 |x::xs,_,_,0,y,h,e=>by
  obtain⟨w,r,G1,G2,rfl,h1,h2,h3,rfl⟩:=h
  simp at e;subst e
  refine⟨w,G1,rfl,h1,fun a ha=>by simp[ha],fun p us o y' G3 hp hpG hs ht=>⟨G3++G2,fun a ha=>?_,w,r,G3,G2,rfl,ht,Trees.put hp (h3 p hpG) h2,fun a ha=>h3 a (hs a ha),rfl⟩⟩
  rcases ZsS.mp ha with z|z
  ·simp[hs a z]
  ·simp[z]
 |x::xs,_,_,j+1,y,h,e=>by
  obtain⟨w,r,G1,G2,rfl,h1,h2,h3,rfl⟩:=h
  obtain⟨v,G4,e1,e2,e3,e4⟩:=Trees.part h2 (j:=j) (by simpa using e)
  refine⟨v,G4,by simpa using e1,e2,fun a ha=>by simp[e3 a ha],fun p us o y' G3 hp hpG hs ht=>?_⟩
  obtain⟨G',c2,c3⟩:=e4 p us o y' G3 hp hpG hs ht
  refine⟨G1++G',fun a ha=>?_,w,r,G1,G',rfl,ZW.put hp (fun z=>h3 p z (e3 p hpG)) h1,c3,fun a ha z=>h3 a ha (c2 a z),rfl⟩
  rcases ZsS.mp ha with z|z
  ·simp[z]
  ·simp[c2 a z]
theorem ZW.chgP {j:Int}:∀{cs:List Int}{x x':PV}{v:V}{G:List Addr},ZW K H x v G->pGo (fun z=>pApp z (.int j)) x cs=.ok x' ->
  ∃p us,AtP K H v cs (.ref p)/\H p=some (.lst us)/\us.length<sizeLine/\p∈G/\∃G',(∀a∈G',a∈G)/\ZW K (upd H p (.lst (us++[.int j]))) x' v G'
 |[],x,x',v,G,h,e=>by
  have d:Dn (pApp x (.int j)) (fun y=>y=x') (fun _=>False):=by
   have e:pApp x (.int j)=.ok x':=by cases x<;>exact e
   rw[e];exact rfl
  obtain⟨ys,rfl,hlen,rfl⟩:=Dn.pApp d
  obtain⟨p,us,G4,rfl,hH,hu,hn,rfl⟩:=h
  refine⟨p,us,rfl,hH,by rw[hu.length];exact Ztc hlen (by decide),by simp,p::G4,fun b hb=>hb,p,_,G4,rfl,Z2, ?_,hn,rfl⟩
  have:=Trees.append (Trees.put (o:=.lst (us++[.int j])) hH hn hu) (Trees.one (x:=.int j) (v:=.int j) (F:=[]) ⟨rfl,rfl⟩) (by simp)
  rw[ZtS] at this
  exact this
 |c::cs,.lst xs,x',v,G,h,e=>by
  simp only[pGo] at e
  cases en:ixN xs.length c with
  |none=>rw[en] at e;cases e
  |some n =>
   rw[en] at e
   dsimp only at e
   cases ez:pGo (fun z=>pApp z (.int j)) (xs.getD n .non) cs with
   |bad=>rw[ez] at e;cases e
   |exc q=>rw[ez] at e;cases e
   |ok z =>
    rw[ez] at e
    cases e
    have hnl:=(UR en).2.1
    have hx:xs[n]?=some (xs.getD n .non):=by rw[ZsO,ZsP hnl];rfl
    obtain⟨a,vs,G1,rfl,ha,ht,hna,rfl⟩:=h
    obtain⟨w,G2,e1,e2,e3,e4⟩:=ht.part hx
    obtain⟨p,us,p1,p2,p3,p4,G3,p5,p6⟩:=ZW.chgP e2 ez
    obtain⟨G',c2,c3⟩:=e4 p us _ _ G3 p2 p4 p5 p6
    refine⟨p,us,⟨a,vs,w,rfl,.inl (SqL.of ha),by unfold atI;rw[ht.length,en];exact e1,p1⟩,p2,p3,by simp[e3 p p4],a::G',fun b hb=>?_,a,vs,G',rfl, ?_,c3,fun z=>hna (c2 a z),rfl⟩
    ·rcases ZsZ.mp hb with rfl|hb
     ·simp
     ·simp[c2 b hb]
    ·rw[Zr (fun z=>hna (by rw[z];exact e3 p p4))];exact ha
 |c::cs,.tup xs,x',v,G,h,e=>by
  simp only[pGo] at e
  cases en:ixN xs.length c with
  |none=>rw[en] at e;cases e
  |some n =>
   rw[en] at e
   dsimp only at e
   cases ez:pGo (fun z=>pApp z (.int j)) (xs.getD n .non) cs with
   |bad=>rw[ez] at e;cases e
   |exc q=>rw[ez] at e;cases e
   |ok z =>
    rw[ez] at e
    cases e
    have hnl:=(UR en).2.1
    have hx:xs[n]?=some (xs.getD n .non):=by rw[ZsO,ZsP hnl];rfl
    obtain⟨a,vs,rfl,ha,ht⟩:=h
    obtain⟨w,G2,e1,e2,e3,e4⟩:=ht.part hx
    obtain⟨p,us,p1,p2,p3,p4,G3,p5,p6⟩:=ZW.chgP e2 ez
    obtain⟨G',c2,c3⟩:=e4 p us _ _ G3 p2 p4 p5 p6
    exact⟨p,us,⟨a,vs,w,rfl,.inr ha.sqT,by unfold atI;rw[ht.length,en];exact e1,p1⟩,p2,p3,e3 p p4,G',c2,a,vs,rfl,SqT.put p2 ha,c3⟩
 |_::_,.non,_,_,_,_,e=>by cases e
 |_::_,.bl _,_,_,_,_,e=>by cases e
 |_::_,.int _,_,_,_,_,e=>by cases e
 |_::_,.str _,_,_,_,_,e=>by cases e
 |_::_,.exc _,_,_,_,_,e=>by cases e
 |_::_,.exa _ _,_,_,_,_,e=>by cases e
 |_::_,.box _ _ _,_,_,_,_,e=>by cases e
theorem Zan (x y:PV) (e:PX):pApp x y≠.exc e:=by
 unfold pApp
 intro h
 split at h
 ·split at h<;>cases h
 ·cases h
theorem Uz {f:PV->Rr PV} (hf:∀x e,f x≠.exc e):∀(cs:List Int) (x:PV) (e:PX),pGo f x cs≠.exc e
 |[],x,e=>by
  have:pGo f x []=f x:=by cases x<;>rfl
  rw[this];exact hf x e
 |c::cs,x,e=>by
  intro h
  cases x with
  |lst xs =>
   simp only[pGo] at h
   split at h
   ·rename_i n _
    cases ez:pGo f (xs.getD n .non) cs with
    |ok z=>rw[ez] at h;cases h
    |bad=>rw[ez] at h;cases h
    |exc q=>exact Uz hf cs _ _ ez
   ·cases h
  |tup xs =>
   simp only[pGo] at h
   split at h
   ·rename_i n _
    cases ez:pGo f (xs.getD n .non) cs with
    |ok z=>rw[ez] at h;cases h
    |bad=>rw[ez] at h;cases h
    |exc q=>exact Uz hf cs _ _ ez
   ·cases h
  |_=>cases h
def DPa (K:W.Frag) (Γ:List Md) (i:Nat) (tp:TE) (ix:List PV->Rr (List Int)):Prop:=(∀ρ e,ix ρ≠.exc e) /\
 ∀(B:Addr->Prop) (H0 H:Hp) (σ:St) (ρ:List PV) (F:Nat->List Addr) (R:List Addr) (cs:List Int) (v u:V) (Q:VK),Ag K B H0 H σ Γ ρ F R->ix ρ=.ok cs->σ[i]?=some (some v)->AtP K H v cs u->Q u H->tp σ H Q
variable {Γ Γ1 Γ2:List Md}{i:Nat}{tp:TE}{ix:List PV->Rr (List Int)}{EX:PX->Hp->Prop}{k:Kd}
theorem ZfU:DPa K Γ i (QW i) (fun _=>.ok []):=⟨fun ρ e h=>(by cases h),fun B H0 H σ ρ F R cs v u Q A e hv h q=>by
 cases e
 cases h
 exact⟨v,hv,q⟩⟩
theorem Zk1 {w u:V}{c:Int}{Q:VK} (h:AtP K H w [c] u) (q:Q u H):rIx K w (.int c) H Q:=by
 obtain⟨a,vs,z,rfl,hs,ha,rfl⟩:=h
 rcases hs with hs|hs
 ·exact .inl ⟨a,vs,c,u,rfl,rfl,hs,ha,q⟩
 ·exact .inr (.inl ⟨a,vs,c,u,rfl,rfl,hs,ha,q⟩)
theorem Zc7 {l:Nat}{m:Md} (hl:Γ[l]?=some m) (hm:m≠.U) (h:DPa K Γ i tp ix):DPa K Γ i (tOp (rIx K) tp (QW l)) (fun ρ=>(ix ρ).bind fun cs=>(asI (gv l ρ)).bind fun c=>.ok (cs++[c])):=by
 refine⟨fun ρ e z=>?_,fun B H0 H σ ρ F R cs v u Q A e hv ha q=>?_⟩
 ·dsimp only at z
  cases ec:ix ρ with
  |bad=>rw[ec] at z;cases z
  |exc q=>exact h.1 ρ q ec
  |ok ds =>
   rw[ec] at z
   cases eg:gv l ρ with
   |int c=>rw[eg] at z;cases z
   |_=>rw[eg] at z;cases z
 dsimp only at e
 cases ec:ix ρ with
 |bad=>rw[ec] at e;cases e
 |exc q=>rw[ec] at e;cases e
 |ok ds =>
  rw[ec] at e
  obtain⟨z,z1,z2⟩:=A.getA hl hm
  cases eg:gv l ρ with
  |int c =>
   rw[eg] at e
   cases e
   obtain⟨w,h1,h2⟩:=ha.snoc
   rw[show ρ.getD l .non=.int c from eg] at z2
   cases z2
   exact h.2 B H0 H σ ρ F R ds v w _ A ec hv h1 ⟨_,z1,Zk1 h2 q⟩
  |_=>rw[eg] at e;cases e
theorem Ze0 {j:Int} (hm:Γ[i]?=some .O) (hp:DPa K Γ i tp ix):DS K EX Γ ⟨Γ,Γ1,Γ2,k⟩ (Zbl (tBM K "list" UM tp (VX (tC (.int j)) Zbe)))
  (fun ρ=>(ix ρ).thenS fun cs=>(pGo (fun z=>pApp z (.int j)) (gv i ρ) cs).thenS fun w=>.next (ρ.set i w)):=fun B H0 H σ ρ F D A d=>by
 have d1:=d.thenS
 cases ec:ix ρ with
 |bad=>rw[ec] at d1;exact d1.elim
 |exc q=>exact(hp.1 ρ q ec).elim
 |ok cs =>
  rw[ec] at d1
  have d2:=DnS.thenS d1
  obtain⟨v,h1,h2⟩:=A.getO hm
  cases ep:pGo (fun z=>pApp z (.int j)) (gv i ρ) cs with
  |bad=>rw[ep] at d2;exact d2.elim
  |exc q=>exact(Uz (fun x e=>Zan _ _ e) _ _ _ ep).elim
  |ok w =>
   rw[ep] at d2
   obtain⟨p,us,p1,p2,p3,c1,G',c2,c3⟩:=ZW.chgP h2 ep
   refine hp.2 B H0 H σ ρ F [] cs v (.ref p) _ A ec h1 p1 ⟨.inl ⟨rfl,_,SqL.of p2⟩,p,us,.int j,rfl,rfl,p2,p3, ?_⟩
   exact d2 σ _ (JS F i G') (VH (Zw.refl _) (fun _ _ h=>h) c1 fun b hb=>.inr ⟨i,c2 b hb⟩) (Ag.chg (G:=[]) A hm c1 (fun b hb=>.inl (c2 b hb)) (by simp) ⟨_,h1,c3⟩)
end
noncomputable def frz (m:Md):Md:=if m=.O\/m=.T then .S else m
section
variable {K:W.Frag}{B:Addr->Prop}{EX:PX->Hp->Prop}{H0 H H':Hp}{σ:St}{Γ:List Md}{ρ:List PV}{F:Nat->List Addr}{R:List Addr}{tt:TT}{c:List PV->Rr Bool}{te:TE}{fe:List PV->Rr PV}
theorem Ag.freezeAll (A:Ag K B H0 H σ Γ ρ F R):Ag K B H0 H σ (Γ.map frz) ρ (fun _=>[]) R:=by
 refine⟨A.same,A.own,by simp,A.youngR,by simp,A.liveR,by simp,by simp,by simp[A.lenS],by simp[A.lenR],fun i=>?_⟩
 have sl:=A.slot i
 have e:(Γ.map frz).getD i .U=frz (Γ.getD i .U):=by
  rw[ZsO,ZsO,Ztf]
  cases Γ[i]?<;>rfl
 rw[e]
 have up:∀{a},NO B F R a->NO B (fun _=>[]) R a:=fun {a} s=>⟨s.1,s.2.1,by simp⟩
 have ow:∀a∈F i,NO B (fun _=>[]) R a:=fun a ha=>⟨A.own a (A.young i a ha),A.disjR i a ha,by simp⟩
 cases hm:Γ.getD i .U with
 |U=>exact rfl
 |P=>rw[hm] at sl;exact⟨rfl,sl.2⟩
 |S =>
  rw[hm] at sl
  obtain⟨_,v,h1,h2⟩:=sl
  exact⟨rfl,v,h1,Rep.mono (fun a vs s r=>⟨r,up s⟩) (fun a vs r=>r) h2⟩
 |T =>
  rw[hm] at sl
  obtain⟨a,vs,xs,h1,h2,h3,h4,h5⟩:=sl
  refine⟨rfl,.ref a,h1, ?_⟩
  rw[h2]
  exact⟨a,vs,rfl,.inl ⟨.inl h3,ow a (by rw[h5];simp)⟩,Reps.mono (fun a vs s r=>⟨r,up s⟩) (fun a vs r=>r) h4⟩
 |O =>
  rw[hm] at sl
  obtain⟨v,h1,h2⟩:=sl
  exact⟨rfl,v,h1,h2.rep ow⟩
theorem QU {i:Nat} (hm:(Γ.map frz)[i]?=some .S) (ht:DT K EX (Γ.map frz++[.S]) (Γ.map frz++[.S]) tt c) (he:DE K EX (Γ.map frz++[.S]) (Γ.map frz++[.S]) .F te fe) :
  DE K EX Γ Γ .F (Q4 (ZfL K (QW i)) tB1 tt te) (fun ρ=>(asL (gv i ρ)).bind fun xs=>(lenM xs).bind fun _=>(ZbW (fun x=>(c (ρ++[x])).bind fun b=>if b=true then (fe (ρ++[x])).bind fun y=>.ok (some y) else .ok none) xs).bind fun ys=>.ok (.lst ys)):=fun B H0 H σ ρ F R Q A d=>by
 obtain⟨xs,exs,d⟩:=Dn.asL d.bind
 obtain⟨hlen,d⟩:=Dn.lenM d.bind
 have AF:=A.freezeAll
 obtain⟨v,h1,h2⟩:=AF.getS hm
 rw[show ρ.getD i .non=.lst xs from exs] at h2
 obtain⟨a,vs,rfl,hn,hr⟩:=id h2
 generalize hgx:(fun x=>(c (ρ++[x])).bind fun b=>if b=true then (fe (ρ++[x])).bind fun y=>Rr.ok (some y) else .ok none)=gx at d
 have l1:=AF.lenS
 have l2:=AF.lenR
 have hl:vs.length=xs.length:=hr.length
 refine⟨.ref a,h1,a,rfl,⟨vs,V5 hn⟩, ?_⟩
 refine⟨fun k m ys H2=>∃zs G,m=xs.length-k/\k<=xs.length/\ys.length<=k/\Zw H H2/\Trees K H2 zs ys G/\(∀b∈G,H b=none) /\
  Dn ((ZbW gx (xs.drop k)).bind fun ys'=>.ok (.lst (zs++ys'))) (fun x=>∀v H',Zw H H'->Res K B H0 H σ Γ ρ F R .F x v H'->Q v H') (fun e=>∀H',Zw H0 H'->EX e H'),
  ⟨xs.length,[],[],by simp,Ztp _,ZsU _,Zw.refl _,⟨rfl,rfl⟩,by simp,by simpa using d⟩, ?_⟩
 rintro k m ys H2 ⟨zs,G,rfl,hk,hyl,s2,tr,fr,dn⟩
 have hsq:SqL K H2 a vs:=V5 (S:=fun _=>True) (hn.elim (fun z=>.inl ⟨z.1.same s2,trivial⟩) .inr)
 refine⟨VQ (by omega), ?_⟩
 cases hx:xs[k]? with
 |none =>
  have hge:=Zt3.mp hx
  refine .inl ⟨⟨vs,hsq,by omega⟩,fun p hp=>?_⟩
  have hd:xs.drop k=[]:=ZtE hge
  rw[hd] at dn
  have dn':∀v H',Zw H H'->Res K B H0 H σ Γ ρ F R .F (.lst (zs++[])) v H'->Q v H':=dn
  rw[ZtS] at dn'
  exact dn' _ _ (s2.trans (Zw.new hp)) (Res.newF s2 (fun _ _ h=>h) tr (fun b hb=>⟨fun z=>(by
   obtain⟨us,q⟩:=A.liveR b z
   rw[fr b hb] at q;cases q),.inl (fr b hb)⟩) (A.more s2 fr tr.alive) hp)
 |some x =>
  have hlt:k<xs.length:=(ZsR.mp hx).1
  have hdx:xs.drop k=x::xs.drop (k+1):=by
   rw[Zth hlt]
   rw[ZsP hlt] at hx;cases hx;rfl
  rw[hdx] at dn
  simp only[ZbW,Rr.assoc] at dn
  rw[<- hgx] at dn
  simp only[Rr.assoc] at dn
  rw[hgx] at dn
  obtain⟨w,hvk,hrep⟩:=hr.get hx
  refine .inr ⟨⟨vs,w,hsq,hvk⟩,fun ys' H'=>∃zs G,ys'.length<=k+1/\Zw H H'/\Trees K H' zs ys' G/\(∀b∈G,H b=none) /\
   Dn ((ZbW gx (xs.drop (k+1))).bind fun ys'=>.ok (.lst (zs++ys'))) (fun x=>∀v H',Zw H H'->Res K B H0 H σ Γ ρ F R .F x v H'->Q v H') (fun e=>∀H',Zw H0 H'->EX e H'),
   fun ys' H' ⟨zs,G,a1,a2,a3,a4,a5⟩=>⟨xs.length-(k+1),by omega,zs,G,rfl,hlt,a1,a2,a3,a4,a5⟩,fun v H3 ⟨e3,yv⟩=>?_⟩
  subst e3
  have:=yv vs hsq
  rw[hvk] at this
  cases this
  have AG:=AF.more s2 fr tr.alive
  have rx:Rep K H3 (NO B (fun _=>[]) (G++R)) x w:=Rep.mono (fun b us s r=>⟨r.same s2,s.1,fun z=>by
   rcases ZsS.mp z with z|z
   ·rcases r with r|⟨o,r⟩
    ·rw[fr b z] at r;cases r
    ·rw[fr b z] at r;cases r
   ·exact s.2.1 z,s.2.2⟩) (fun b us r=>s2.im r) hrep
  refine⟨[w],rfl, ?_⟩
  have A3:=AG.push rx
  refine ht B H0 H3 _ _ _ (G++R) _ A3 (dn.bind.imp (fun b _ dn H4 F4 s4 f4 A4=>?_) fun e q=>q)
  cases b with
  |false =>
   rw[if_neg Bool.false_ne_true] at dn ⊢
   simp only[Rr.bind_ok,ZuC] at dn
   refine⟨zs,G,by omega,s2.trans s4,tr.same s4,fr, ?_⟩
   simp only[Rr.assoc,Rr.bind_ok,ZtT] at dn
   exact dn
  |true =>
   rw[if_pos rfl] at dn ⊢
   simp only[Rr.assoc] at dn
   refine he B H0 H4 _ _ F4 (G++R) _ A4 (dn.bind.imp (fun z _ dn w' H5 s5 r5=>?_) fun e q=>q)
   obtain⟨F5,f5,G5,t5,o5,A5⟩:=r5
   refine⟨zs++[z],G++G5,by simp;omega,(s2.trans s4).trans s5,Trees.append ((tr.same s4).same s5) (Trees.one t5) (fun b hb z=>(o5 b z).1 (ZsW _ hb)),fun b hb=>?_, ?_⟩
   ·rcases ZsS.mp hb with z|z
    ·exact fr b z
    ·rcases (o5 b z).2 with q|⟨j,q⟩
     ·exact(s2.trans s4).free q
     ·exact absurd (f4 j b q) (by simp)
   ·simp only[Rr.assoc,Rr.bind_ok,ZuC,Zta,Zui] at dn ⊢
    exact dn
end
end L2
namespace HL
open PySem PyProof.Rows
section
open PySem.SeqAt
open PySem.AutoSeq1 (wpAny_loadPart')
open PySem.MeetsSeq PySem.MeetsSeq2 PySem.MeetsSeq3 SeqRoads2
end
section
end
end HL
namespace L2
open PySem PySem.Spec PyProof.Rows
section
variable {K:W.Frag}{B:Addr->Prop}{H0 H:Hp}{σ:St}{Γ:List Md}{ρ:List PV}{F:Nat->List Addr}{R:List Addr}
theorem Ag.setU {j:Nat}{o:Option V}{y:PV} (A:Ag K B H0 H σ Γ ρ F R) (h:Γ[j]?=some .U):Ag K B H0 H (σ.set j o) Γ (ρ.set j y) F R:=by
 refine⟨A.same,A.own,A.young,A.youngR,A.live,A.liveR,A.disj,A.disjR,by simp[A.lenS],by simp[A.lenR],fun i=>?_⟩
 have sl:=A.slot i
 by_cases e:i=j
 ·subst e
  have hU:Γ.getD i .U=.U:=by rw[ZsO,h];rfl
  rw[hU] at sl ⊢
  exact sl
 ·rw[Ztj (fun z=>e z.symm),ZsO (l:=ρ.set j y),Ztj (fun z=>e z.symm),<- ZsO]
  exact sl
end
def G0 (K:W.Frag) (B:Addr->Prop) (H0 H:Hp) (σ:St) (Γb:List Md) (ρ:List PV) (L v:Nat) (a:Addr) (vs:List V) (xs:List PV) (G Gx:List Addr):Prop:=
 Ag K B H0 H σ Γb ρ (fun _=>[]) (a::(G++Gx))/\σ[L]?=some (some (.ref a))/\gv L ρ=.lst xs/\H a=some (.lst vs)/\Trees K H xs vs G/\a ∉ G/\∃w,σ[v]?=some (some w)/\vs[0]?=some w/\xs[0]?=some (gv v ρ)
section
end
theorem ZdG {α β:Type}{f:α->Rr β}:∀{xs:List α},ZbW (fun x=>(f x).bind fun y=>.ok (some y)) xs=ZdA f xs
 |[]=>rfl
 |x::xs=>by
  simp only[ZbW,ZdA,Rr.assoc,ZdG (xs:=xs),Rr.bind_ok,ZuC,Zui]
section
variable {K:W.Frag}{EX:PX->Hp->Prop}{Γ Γ1:List Md}{te:TE}{fe:List PV->Rr PV}
theorem VU {wi:TI}{fi:List PV->Rr (List PV)} (hi:DIc K EX Γ Γ1 wi fi) (he:DE K EX (Γ1++[.S]) (Γ1++[.S]) .F te fe) :
  DE K EX Γ Γ1 .F (Q4 wi tB1 Zkg te) (fun ρ=>(fi ρ).bind fun xs=>(lenM xs).bind fun _=>(ZdA (fun x=>fe (ρ++[x])) xs).bind fun ys=>.ok (.lst ys)):=by
 have h:=UA (k:=1) hi Zl9 ZbJ he
 simp only[Rr.bind_ok,if_true,ZdG] at h
 exact h
variable {X:Cx}{scope:Scope}{x y:Str}{elt iter:Expr}{pos px py spos:Pos}{wi:TI}{i:Nat}
theorem Qo (hi:PI X (.Name x px) iter wi) (he:∀C s₂ H₂ ex,PE (UF X scope [x] C ex s₂ H₂) elt te) (hNd:X.N.Nodup) (hc:X.calm=true)
  (hclos:closureFor scope X.env=pure (Zgn scope X.env):=by rfl) (hchk:V1 X.N X.env.scope scope [x]=true:=by rfl) (hs:∀x,foldedSetIterable iter X.env x=pure x:=by exact fun _=>rfl) :
  PE X (.ListComp elt [⟨.Name x px,iter,[],0⟩] scope pos) (Q4 wi tB1 Zkg te):=VM hi (VD hNd hchk) (fun _ _ _ _=>Zak) he hv1 hNd hc hclos hchk hs
theorem QB (hN:X.N.Nodup) (hi:X.N[i]?=some y) (hit:PI X (.Name x px) iter wi) (he:∀C s₂ H₂ ex,PE (UF X scope [x] C ex s₂ H₂) elt te) (hc:X.calm=true)
  (hsw:swapsWith (.ListComp elt [⟨.Name x px,iter,[],0⟩] scope pos) (some (.Name y py)) spos.line X.env=pure true:=by rfl) (hy:X.env.scope.names.lookup y=some .local:=by rfl)
  (hclos:closureFor scope X.env=pure (Zgn scope X.env):=by rfl) (hchk:V1 X.N X.env.scope scope [x]=true:=by rfl) (hs:∀x,foldedSetIterable iter X.env x=pure x:=by exact fun _=>rfl) :
  PS X (.Assign [.Name y py] (.ListComp elt [⟨.Name x px,iter,[],0⟩] scope pos) spos) (Q3 i wi tB1 Zkg te):=QC hN hi hit (VD hN hchk) (fun _ _ _ _=>Zak) he hv1 hc hsw hy hclos hchk hs
end
end L2
namespace L2
open PySem PyProof.Rows
structure UE (prog:Program) (w:World) (A:Around) (s:Shared) (κ:SortKind) (U:Keyed->Prop) (R:Keyed->Keyed->Bool):Prop where
 ask:∀x y,U x->U y->∀(Q:Bool->Shared->Prop),Q (R x y) s->wpAny (model prog w) A (keyLt' κ x.1 y.1) Q (fun _ _=>False) s
 asy:∀x y,U x->U y->R x y=true->R y x=false
 tr:∀x y z,U x->U y->U z->R y x=false->R z y=false->R z x=false
section
variable {prog:Program}{w:World}{A:Around}{E:Value->Shared->Prop}{s:Shared}{κ:SortKind}{U:Keyed->Prop}{R:Keyed->Keyed->Bool}
theorem Qy (C:UE prog w A s κ U R) {st:SortSt}{x y:Keyed}{Q:Option Bool->SortSt->Prop} (hk:kindOf st=κ) (ux:U x) (uy:U y) (h:Q (some (R x y)) st):wpS (model prog w) A E s (lt' x y) Q st:=by
 rw[lt'_eq]
 refine wpS_bind (wpS_get ?_)
 rw[hk]
 refine wpS_bind (wpS_lift (wpAny_attempt (wpAny_mono (C.ask x y ux uy (fun b s'=>s'=s/\b=R x y) ⟨rfl,rfl⟩) (fun b s' q=>?_) fun _ _ q=>q.elim)))
 obtain⟨rfl,rfl⟩:=q
 exact⟨rfl,wpS_pure h⟩
theorem Zn {st:SortSt}{arr:Array Keyed}{i:Nat}{x:Keyed}{Q:Keyed->SortSt->Prop} (hx:arr[i]?=some x) (h:Q x st):wpS (model prog w) A E s (elem' arr i) Q st:=by
 rw[elem'_eq,hx]
 exact wpS_pure h
end
noncomputable def VG:Bool->Keyed->Array Keyed->Nat->Nat->Nat->StateT SortSt Sem (Option Nat):=sortPriv% PySem.Builtin.gallop
noncomputable def Zeh (left:Bool) (key:Keyed) (arr:Array Keyed) (base:Nat) (i:Nat):StateT SortSt Sem (Option Bool):=do
 let x <- elem' arr (base+i)
 if left then lt' x key else return (<- lt' key x).map (!·)
theorem Zex (left:Bool) (key:Keyed) (arr:Array Keyed) (base n hint:Nat):VG left key arr base n hint=(do
  let mut u:=0
  let mut v:=1
  let mut a:=0
  let mut b:=0
  let some r <- Zeh left key arr base hint|return none
  if r then
   let w:=n-hint
   for _ in [0:n] do
    if v ≥ w then break
    let some m <- Zeh left key arr base (hint+v)|return none
    if !m then break
    u:=v
    v:=2*v+1
   a:=hint+u+1
   b:=hint+min v w
  else
   let w:=hint+1
   for _ in [0:n] do
    if v ≥ w then break
    let some m <- Zeh left key arr base (hint-v)|return none
    if m then break
    u:=v
    v:=2*v+1
   a:=hint+1-min v w
   b:=hint-u
  for _ in [0:n] do
   if a ≥ b then break
   let c:=a+(b-a)/2
   let some m <- Zeh left key arr base c|return none
   if m then a:=c+1 else b:=c
  return some b):=rfl
section
variable {prog:Program}{w:World}{A:Around}{E:Value->Shared->Prop}{s:Shared}{κ:SortKind}{U:Keyed->Prop}{R:Keyed->Keyed->Bool}
structure Qd (U:Keyed->Prop) (R:Keyed->Keyed->Bool) (left:Bool) (key:Keyed) (arr:Array Keyed) (base n:Nat) (P:Nat->Bool):Prop where
 uk:U key
 it:∀i,i<n->∃x,arr[base+i]?=some x/\U x/\P i=(if left=true then R x key else !R key x)
 mono:∀i j,i<=j->j<n->P j=true->P i=true
theorem Uq (C:UE prog w A s κ U R) {st:SortSt}{left:Bool}{key:Keyed}{arr:Array Keyed}{base n i:Nat}{P:Nat->Bool}{Q:Option Bool->SortSt->Prop} (hk:kindOf st=κ) (K:Qd U R left key arr base n P) (hi:i<n) (h:Q (some (P i)) st) :
  wpS (model prog w) A E s (Zeh left key arr base i) Q st:=by
 obtain⟨x,hx,ux,hp⟩:=K.it i hi
 unfold Zeh
 refine wpS_bind (Zn hx ?_)
 cases left with
 |true =>
  rw[if_pos rfl] at hp ⊢
  exact Qy C hk ux K.uk (by rw[<- hp];exact h)
 |false =>
  rw[if_neg (by decide)] at hp ⊢
  exact wpS_bind (Qy C hk K.uk ux (wpS_pure (by rw[Option.map_some,<- hp];exact h)))
theorem ZG (C:UE prog w A s κ U R) {st:SortSt}{left:Bool}{key:Keyed}{arr:Array Keyed}{base n hint:Nat}{P:Nat->Bool}{Q:Option Nat->SortSt->Prop} (hk:kindOf st=κ) (K:Qd U R left key arr base n P) (hh:hint<n)
  (h:∀k,k<=n->(∀i,i<k->P i=true)->(∀i,k<=i->i<n->P i=false)->Q (some k) st):wpS (model prog w) A E s (VG left key arr base n hint) Q st:=by
 rw[Zex]
 refine wpS_bind (Uq C hk K hh ?_)
 dsimp only
 have down:∀{i j},i<=j->j<n->P i=false->P j=false:=fun {i j} h1 h2 h3=>by
  cases hj:P j with
  |false=>rfl
  |true=>rw[K.mono i j h1 h2 hj] at h3;cases h3
 cases hP:P hint with
 |true =>
  rw[if_pos rfl]
  refine wpS_bind (wpS_mono (wpS_forRange (I:=fun x (c:Option (Option Nat)×Nat×Nat) (st':SortSt)=>st'=st/\c.1=none/\P (hint+c.2.1)=true/\hint+c.2.1<n/\c.2.1<c.2.2/\x+1<=c.2.2)
   (Q:=fun(c:Option (Option Nat)×Nat×Nat) (st':SortSt)=>st'=st/\c.1=none/\P (hint+c.2.1)=true/\hint+c.2.1<n/\c.2.1<c.2.2/\(n-hint<=c.2.2\/(c.2.2<n-hint/\P (hint+c.2.2)=false))) ?_ ?_ ⟨rfl,rfl,by simpa using hP,by simpa using hh,Nat.zero_lt_one,ZsU _⟩) ?_)
  ·rintro x ⟨o,u,v⟩ st' _ hx ⟨rfl,rfl,q1,q2,q3,q4⟩
   dsimp only at q1 q2 q3 q4 ⊢
   by_cases hv:v ≥ n-hint
   ·rw[if_pos hv]
    exact wpS_pure ⟨rfl,rfl,q1,q2,q3,.inl hv⟩
   ·rw[if_neg hv]
    refine wpS_bind (Uq C hk K (by omega) ?_)
    dsimp only
    cases hm:P (hint+v) with
    |true =>
     rw[if_neg (by decide)]
     exact wpS_pure ⟨rfl,rfl,hm,by dsimp only;omega,by dsimp only;omega,by dsimp only;omega⟩
    |false =>
     rw[if_pos (by decide)]
     exact wpS_pure ⟨rfl,rfl,q1,q2,q3,.inr ⟨by dsimp only;omega,hm⟩⟩
  ·rintro⟨o,u,v⟩ st' ⟨rfl,rfl,q1,q2,q3,q4⟩
   dsimp only at q1 q2 q3 q4 ⊢
   exact⟨rfl,rfl,q1,q2,q3,.inl (by omega)⟩
  rintro⟨o,u,v⟩ st' ⟨hst,rfl,q1,q2,q3,q4⟩
  have hst:=hst.symm
  subst hst
  dsimp only at q1 q2 q3 q4 ⊢
  have ab:hint+u+1<=hint+min v (n-hint):=by omega
  have bn:hint+min v (n-hint)<=n:=by omega
  have pa:∀i,i<hint+u+1->P i=true:=fun i hi=>K.mono i (hint+u) (by omega) (by omega) q1
  have pb:∀i,hint+min v (n-hint)<=i->i<n->P i=false:=fun i h1 h2=>by
   rcases q4 with q4|⟨q4,q5⟩
   ·omega
   ·exact down (by omega) h2 q5
  refine wpS_bind (wpS_mono (wpS_forRange (I:=fun x (c:Option (Option Nat)×Nat×Nat) (st':SortSt)=>st'=st/\c.1=none/\c.2.1<=c.2.2/\c.2.2<=n/\(∀i,i<c.2.1->P i=true)/\(∀i,c.2.2<=i->i<n->P i=false)/\c.2.2-c.2.1<=n-x)
   (Q:=fun(c:Option (Option Nat)×Nat×Nat) (st':SortSt)=>st'=st/\c.1=none/\c.2.1=c.2.2/\c.2.2<=n/\(∀i,i<c.2.1->P i=true)/\(∀i,c.2.2<=i->i<n->P i=false)) ?_ ?_ ⟨rfl,rfl,ab,bn,pa,pb,by dsimp only;omega⟩) ?_)
  ·rintro x ⟨o,a,b⟩ st' _ hx ⟨rfl,rfl,q1,q2,q3,q4,q5⟩
   dsimp only at q1 q2 q3 q4 q5 ⊢
   by_cases hab:a ≥ b
   ·rw[if_pos hab]
    exact wpS_pure ⟨rfl,rfl,by dsimp only;omega,q2,q3,q4⟩
   ·rw[if_neg hab]
    refine wpS_bind (Uq C hk K (by omega) ?_)
    dsimp only
    cases hm:P (a+(b-a)/2) with
    |true =>
     rw[if_pos rfl]
     exact wpS_pure ⟨rfl,rfl,by dsimp only;omega,q2,fun i hi=>K.mono i (a+(b-a)/2) (by dsimp only at hi;omega) (by omega) hm,q4,by dsimp only;omega⟩
    |false =>
     rw[if_neg (by decide)]
     refine wpS_pure ⟨rfl,rfl,by dsimp only;omega,by dsimp only;omega,q3,fun i h1 h2=>?_,by dsimp only;omega⟩
     cases hi:P i with
     |false=>rfl
     |true=>rw[K.mono _ i h1 h2 hi] at hm;cases hm
  ·rintro⟨o,a,b⟩ st' ⟨rfl,rfl,q1,q2,q3,q4,q5⟩
   dsimp only at q1 q2 q3 q4 q5 ⊢
   exact⟨rfl,rfl,by omega,q2,q3,q4⟩
  ·rintro⟨o,a,b⟩ st' ⟨rfl,rfl,q1,q2,q3,q4⟩
   dsimp only at q1 q2 q3 q4 ⊢
   exact wpS_pure (h b q2 (by rw[<- q1];exact q3) q4)
 |false =>
  rw[if_neg (by decide)]
  refine wpS_bind (wpS_mono (wpS_forRange (I:=fun x (c:Option (Option Nat)×Nat×Nat) (st':SortSt)=>st'=st/\c.1=none/\P (hint-c.2.1)=false/\c.2.1<=hint/\c.2.1<c.2.2/\x+1<=c.2.2)
   (Q:=fun(c:Option (Option Nat)×Nat×Nat) (st':SortSt)=>st'=st/\c.1=none/\P (hint-c.2.1)=false/\c.2.1<=hint/\c.2.1<c.2.2/\(hint+1<=c.2.2\/(c.2.2<=hint/\P (hint-c.2.2)=true))) ?_ ?_ ⟨rfl,rfl,by simpa using hP,Ztp _,Nat.zero_lt_one,ZsU _⟩) ?_)
  ·rintro x ⟨o,u,v⟩ st' _ hx ⟨rfl,rfl,q1,q2,q3,q4⟩
   dsimp only at q1 q2 q3 q4 ⊢
   by_cases hv:v ≥ hint+1
   ·rw[if_pos hv]
    exact wpS_pure ⟨rfl,rfl,q1,q2,q3,.inl hv⟩
   ·rw[if_neg hv]
    refine wpS_bind (Uq C hk K (by omega) ?_)
    dsimp only
    cases hm:P (hint-v) with
    |true =>
     rw[if_pos rfl]
     exact wpS_pure ⟨rfl,rfl,q1,q2,q3,.inr ⟨by dsimp only;omega,hm⟩⟩
    |false =>
     rw[if_neg (by decide)]
     exact wpS_pure ⟨rfl,rfl,hm,by dsimp only;omega,by dsimp only;omega,by dsimp only;omega⟩
  ·rintro⟨o,u,v⟩ st' ⟨rfl,rfl,q1,q2,q3,q4⟩
   dsimp only at q1 q2 q3 q4 ⊢
   exact⟨rfl,rfl,q1,q2,q3,.inl (by omega)⟩
  rintro⟨o,u,v⟩ st' ⟨hst,rfl,q1,q2,q3,q4⟩
  have hst:=hst.symm
  subst hst
  dsimp only at q1 q2 q3 q4 ⊢
  have ab:hint+1-min v (hint+1)<=hint-u:=by omega
  have bn:hint-u<=n:=by omega
  have pa:∀i,i<hint+1-min v (hint+1)->P i=true:=fun i hi=>by
   rcases q4 with q4|⟨q4,q5⟩
   ·omega
   ·exact K.mono i (hint-v) (by omega) (by omega) q5
  have pb:∀i,hint-u<=i->i<n->P i=false:=fun i h1 h2=>down h1 h2 q1
  refine wpS_bind (wpS_mono (wpS_forRange (I:=fun x (c:Option (Option Nat)×Nat×Nat) (st':SortSt)=>st'=st/\c.1=none/\c.2.1<=c.2.2/\c.2.2<=n/\(∀i,i<c.2.1->P i=true)/\(∀i,c.2.2<=i->i<n->P i=false)/\c.2.2-c.2.1<=n-x)
   (Q:=fun(c:Option (Option Nat)×Nat×Nat) (st':SortSt)=>st'=st/\c.1=none/\c.2.1=c.2.2/\c.2.2<=n/\(∀i,i<c.2.1->P i=true)/\(∀i,c.2.2<=i->i<n->P i=false)) ?_ ?_ ⟨rfl,rfl,ab,bn,pa,pb,by dsimp only;omega⟩) ?_)
  ·rintro x ⟨o,a,b⟩ st' _ hx ⟨rfl,rfl,q1,q2,q3,q4,q5⟩
   dsimp only at q1 q2 q3 q4 q5 ⊢
   by_cases hab:a ≥ b
   ·rw[if_pos hab]
    exact wpS_pure ⟨rfl,rfl,by dsimp only;omega,q2,q3,q4⟩
   ·rw[if_neg hab]
    refine wpS_bind (Uq C hk K (by omega) ?_)
    dsimp only
    cases hm:P (a+(b-a)/2) with
    |true =>
     rw[if_pos rfl]
     exact wpS_pure ⟨rfl,rfl,by dsimp only;omega,q2,fun i hi=>K.mono i (a+(b-a)/2) (by dsimp only at hi;omega) (by omega) hm,q4,by dsimp only;omega⟩
    |false =>
     rw[if_neg (by decide)]
     refine wpS_pure ⟨rfl,rfl,by dsimp only;omega,by dsimp only;omega,q3,fun i h1 h2=>?_,by dsimp only;omega⟩
     cases hi:P i with
     |false=>rfl
     |true=>rw[K.mono _ i h1 h2 hi] at hm;cases hm
  ·rintro⟨o,a,b⟩ st' ⟨rfl,rfl,q1,q2,q3,q4,q5⟩
   dsimp only at q1 q2 q3 q4 q5 ⊢
   exact⟨rfl,rfl,by omega,q2,q3,q4⟩
  ·rintro⟨o,a,b⟩ st' ⟨rfl,rfl,q1,q2,q3,q4⟩
   dsimp only at q1 q2 q3 q4 ⊢
   exact wpS_pure (h b q2 (by rw[<- q1];exact q3) q4)
end
noncomputable def ZaL:Array Keyed->Array Keyed->StateT SortSt Sem (Array Keyed):=sortPriv% PySem.Builtin.mergeLo
noncomputable def Zku (g:Nat):StateT SortSt Sem Unit:=modify fun s=>SortSt.mk' (kindOf s) (arrOf s) (pendingOf s) g (failedOf s)
noncomputable def endA (a b o:Array Keyed) (i j:Nat):Array Keyed:=o++a.extract i a.size++b.extract j b.size
noncomputable def endB (a b o:Array Keyed) (i j:Nat):Array Keyed:=o++b.extract j b.size++a.extract i a.size
theorem Zcu (a b:Array Keyed):ZaL a b=(do
  rule "list.sort.merge-lo"
  let n:=a.size+b.size
  let mut o:Array Keyed:=#[<- elem' b 0]
  let mut i:=0
  let mut j:=1
  if j==b.size then return endA a b o i j
  if i+1==a.size then return endB a b o i j
  let mut g:=gallopOf (<- get)
  for _ in [0:n] do
   let mut x:=0
   let mut y:=0
   for _ in [0:n] do
    let some t <- lt' (<- elem' b j) (<- elem' a i)|return endA a b o i j
    if t then
     o:=o.push (<- elem' b j);j:=j+1;y:=y+1;x:=0
     if j==b.size then return endA a b o i j
     if y ≥ g then break
    else
     o:=o.push (<- elem' a i);i:=i+1;x:=x+1;y:=0
     if i+1==a.size then return endB a b o i j
     if x ≥ g then break
   rule "list.sort.gallop"
   g:=g+1
   for _ in [0:n] do
    if g>1 then g:=g-1
    Zku g
    let some k <- VG false (<- elem' b j) a i (a.size-i) 0|return endA a b o i j
    x:=k
    if k>0 then
     o:=o++a.extract i (i+k);i:=i+k
     if i+1==a.size then return endB a b o i j
     if i==a.size then return endA a b o i j
    o:=o.push (<- elem' b j);j:=j+1
    if j==b.size then return endA a b o i j
    let some k <- VG true (<- elem' a i) b j (b.size-j) 0|return endA a b o i j
    y:=k
    if k>0 then
     o:=o++b.extract j (j+k);j:=j+k
     if j==b.size then return endA a b o i j
    o:=o.push (<- elem' a i);i:=i+1
    if i+1==a.size then return endB a b o i j
    if x<7&&y<7 then break
   g:=g+1
   Zku g
  unsupported "internal:list.sort.merge-bound"):=rfl
def Srt (R:Keyed->Keyed->Bool) (l:List Keyed):Prop:=l.Pairwise fun x y=>R y x=false
structure MI (R:Keyed->Keyed->Bool) (a b o:List Keyed) (i j:Nat):Prop where
 perm:o.Perm (a.take i++b.take j)
 srt:Srt R o
 ga:∀x∈o,∀y∈a.drop i,R y x=false
 gb:∀x∈o,∀y∈b.drop j,R y x=false
 hi:i<=a.length
 hj:j<=b.length
section
variable {R:Keyed->Keyed->Bool}{a b o:List Keyed}{i j:Nat}
theorem VT (l:List Keyed) (i k:Nat):(l.drop i).take k++l.drop (i+k)=l.drop i:=by
 rw[<- List.drop_drop];exact Ztq k (l.drop i)
theorem Zde (l:List Keyed) (i k:Nat):l.take i++(l.drop i).take k=l.take (i+k):=(List.take_add).symm
theorem Srt.drop {l:List Keyed} (h:Srt R l) (i:Nat):Srt R (l.drop i):=h.sublist (List.drop_sublist i l)
theorem MI.pushA (M:MI R a b o i j) (sa:Srt R a) (k:Nat) (hk:i+k<=a.length) (hle:∀x∈(a.drop i).take k,∀y∈b.drop j,R y x=false):MI R a b (o++(a.drop i).take k) (i+k) j:=by
 have sd:=sa.drop i
 rw[<- VT a i k] at sd
 obtain⟨s1,s2,s3⟩:=Zte.mp sd
 refine⟨?_, ?_, ?_, ?_,hk,M.hj⟩
 ·rw[<- Zde]
  refine(M.perm.append_right _).trans ?_
  rw[Zta,Zta]
  exact List.Perm.append_left _ ZtO
 ·exact Zte.mpr ⟨M.srt,s1,fun x hx y hy=>M.ga x hx y (Ztt hy)⟩
 ·intro x hx y hy
  rcases ZsS.mp hx with hx|hx
  ·exact M.ga x hx y (by rw[<- VT a i k];exact ZsT _ hy)
  ·exact s3 x hx y hy
 ·intro x hx y hy
  rcases ZsS.mp hx with hx|hx
  ·exact M.gb x hx y hy
  ·exact hle x hx y hy
theorem MI.pushB (M:MI R a b o i j) (sb:Srt R b) (k:Nat) (hk:j+k<=b.length) (hle:∀x∈(b.drop j).take k,∀y∈a.drop i,R y x=false):MI R a b (o++(b.drop j).take k) i (j+k):=by
 have sd:=sb.drop j
 rw[<- VT b j k] at sd
 obtain⟨s1,s2,s3⟩:=Zte.mp sd
 refine⟨?_, ?_, ?_, ?_,M.hi,hk⟩
 ·rw[<- Zde]
  refine(M.perm.append_right _).trans ?_
  rw[Zta]
 ·exact Zte.mpr ⟨M.srt,s1,fun x hx y hy=>M.gb x hx y (Ztt hy)⟩
 ·intro x hx y hy
  rcases ZsS.mp hx with hx|hx
  ·exact M.ga x hx y hy
  ·exact hle x hx y hy
 ·intro x hx y hy
  rcases ZsS.mp hx with hx|hx
  ·exact M.gb x hx y (by rw[<- VT b j k];exact ZsT _ hy)
  ·exact s3 x hx y hy
theorem MI.all_perm (M:MI R a b o i j):(o++(a.drop i++b.drop j)).Perm (a++b):=by
 refine(M.perm.append_right _).trans ?_
 have e1:(a.take i++b.take j++(a.drop i++b.drop j))=a.take i++(b.take j++a.drop i)++b.drop j:=by simp[Zta]
 rw[e1]
 have p1:(a.take i++(b.take j++a.drop i)++b.drop j).Perm (a.take i++(a.drop i++b.take j)++b.drop j):=(List.Perm.append_left _ ZtO).append_right _
 refine p1.trans ?_
 have e2:a.take i++(a.drop i++b.take j)++b.drop j=(a.take i++a.drop i)++(b.take j++b.drop j):=by rw[Zta,Zta,Zta]
 rw[e2,Ztq,Ztq]
theorem MI.endA (M:MI R a b o i j) (sa:Srt R a) (sb:Srt R b) (h:i=a.length\/j=b.length):Srt R (o++(a.drop i++b.drop j))/\(o++(a.drop i++b.drop j)).Perm (a++b):=by
 refine⟨?_,M.all_perm⟩
 refine Zte.mpr ⟨M.srt, ?_,fun x hx y hy=>?_⟩
 ·rcases h with h|h
  ·rw[h,List.drop_length,ZtT];exact sb.drop j
  ·rw[h,List.drop_length,ZtS];exact sa.drop i
 ·rcases ZsS.mp hy with hy|hy
  ·exact M.ga x hx y hy
  ·exact M.gb x hx y hy
theorem MI.endB (M:MI R a b o i j) (sa:Srt R a) (sb:Srt R b) (h:∀x∈b.drop j,∀y∈a.drop i,R y x=false):Srt R (o++(b.drop j++a.drop i))/\(o++(b.drop j++a.drop i)).Perm (a++b):=by
 refine⟨?_,(List.Perm.append_left _ ZtO).trans M.all_perm⟩
 refine Zte.mpr ⟨M.srt,Zte.mpr ⟨sb.drop j,sa.drop i,h⟩,fun x hx y hy=>?_⟩
 rcases ZsS.mp hy with hy|hy
 ·exact M.gb x hx y hy
 ·exact M.ga x hx y hy
end
section
variable {prog:Program}{w:World}{A:Around}{s:Shared}{κ:SortKind}{U:Keyed->Prop}{R:Keyed->Keyed->Bool}
noncomputable abbrev V4 (st:SortSt) (g:Nat):SortSt:=SortSt.mk' (kindOf st) (arrOf st) (pendingOf st) g (failedOf st)
structure MLo (U:Keyed->Prop) (R:Keyed->Keyed->Bool) (a b:Array Keyed):Prop where
 ua:∀x∈a.toList,U x
 ub:∀x∈b.toList,U x
 sa:Srt R a.toList
 sb:Srt R b.toList
 na:0<a.size
 nb:0<b.size
 fst:∀x y,b.toList[0]?=some x->a.toList[0]?=some y->R y x=false
 lst:∀x∈b.toList,∀y,a.toList[a.size-1]?=some y->R y x=false
theorem UE.irr (C:UE prog w A s κ U R) {x:Keyed} (ux:U x):R x x=false:=by
 cases h:R x x with
 |false=>rfl
 |true=>have:=C.asy x x ux ux h;rw[h] at this;cases this
theorem UE.dropLe (C:UE prog w A s κ U R) {l:List Keyed}{i:Nat}{x z:Keyed} (ul:∀y∈l,U y) (hs:Srt R l) (hz:l[i]?=some z) (ux:U x) (h:R z x=false):∀y∈l.drop i,R y x=false:=fun y hy=>by
 have hi:=(ZsR.mp hz).1
 have e:l.drop i=z::l.drop (i+1):=by
  rw[Zth hi]
  rw[ZsP hi] at hz
  cases hz;rfl
 have uz:U z:=ul z (ZsQ hz)
 have sd:=hs.drop i
 rw[e] at sd hy
 rcases ZsZ.mp hy with rfl|hy'
 ·exact h
 ·have h2:=(ZtJ.mp sd).1 y hy'
  exact C.tr x z y ux uz (ul y (Zty hy')) h h2
theorem Srt.le (C:UE prog w A s κ U R) {l:List Keyed} (ul:∀y∈l,U y) (hs:Srt R l) {i j:Nat}{x y:Keyed} (hij:i<=j) (hx:l[i]?=some x) (hy:l[j]?=some y):R y x=false:=by
 by_cases e:i=j
 ·subst e
  rw[hx] at hy;cases hy
  exact C.irr (ul x (ZsQ hx))
 ·have hi:=(ZsR.mp hx)
  have hj:=(ZsR.mp hy)
  have:=ZtY.mp hs i j hi.1 hj.1 (by omega)
  rw[hi.2,hj.2] at this
  exact this
theorem ZgF (a b o:Array Keyed) (i j:Nat):(endA a b o i j).toList=o.toList++(a.toList.drop i++b.toList.drop j):=by
 simp only[endA,ZuI,ZtZ,Zta,Zt4]
 rw[Ztw (by simp),Ztw (by simp)]
theorem ZgE (a b o:Array Keyed) (i j:Nat):(endB a b o i j).toList=o.toList++(b.toList.drop j++a.toList.drop i):=by
 simp only[endB,ZuI,ZtZ,Zta,Zt4]
 rw[Ztw (by simp),Ztw (by simp)]
theorem Qi {l:List Keyed}{i:Nat}{x:Keyed} (h:l[i]?=some x):(l.drop i).take 1=[x]:=by
 have hi:=(ZsR.mp h)
 rw[Zth hi.1,hi.2];rfl
theorem UQ {l:List Keyed}{i k:Nat}{x:Keyed} (h:x∈(l.drop i).take k):∃t,t<k/\l[i+t]?=some x:=by
 obtain⟨t,ht⟩:=ZtK h
 rw[Zt8] at ht
 split at ht
 ·rename_i hk
  rw[ZtB] at ht
  exact⟨t,hk,ht⟩
 ·cases ht
theorem J7 {l:List Keyed}{i:Nat}{x:Keyed} (h:x∈l.drop i):∃t,l[i+t]?=some x:=by
 obtain⟨t,ht⟩:=ZtK h
 rw[ZtB] at ht
 exact⟨t,ht⟩
theorem ZgU (C:UE prog w A s κ U R) {l:Array Keyed}{key:Keyed}{i:Nat} (ul:∀y∈l.toList,U y) (hs:Srt R l.toList) (uk:U key) (hi:i<=l.size) :
  Qd U R false key l i (l.size-i) (fun t=>!R key (l.getD (i+t) (.none,.none))):=by
 have get:∀t,t<l.size-i->l.toList[i+t]?=some (l.getD (i+t) (.none,.none))/\l[i+t]?=some (l.getD (i+t) (.none,.none)):=fun t ht=>by
  have hlt:i+t<l.size:=by omega
  have e:l.getD (i+t) (.none,.none)=l[i+t]:=by simp[Array.getD,hlt]
  rw[e]
  exact⟨by simp[hlt],by simp[hlt]⟩
 refine⟨uk,fun t ht=>⟨_,(get t ht).2,ul _ (ZsQ (get t ht).1),by rw[if_neg (by decide)]⟩,fun t u htu hu h=>?_⟩
 have hu':=get u hu
 have ht':=get t (by omega)
 have h1:R key (l.getD (i+u) (.none,.none))=false:=by simpa using h
 have h2:=Srt.le C ul hs (show i+t<=i+u by omega) ht'.1 hu'.1
 have:=C.tr _ _ key (ul _ (ZsQ ht'.1)) (ul _ (ZsQ hu'.1)) uk h2 h1
 show (!R key _)=true
 rw[this];rfl
theorem Zbw (C:UE prog w A s κ U R) {l:Array Keyed}{key:Keyed}{i:Nat} (ul:∀y∈l.toList,U y) (hs:Srt R l.toList) (uk:U key) (hi:i<=l.size) :
  Qd U R true key l i (l.size-i) (fun t=>R (l.getD (i+t) (.none,.none)) key):=by
 have get:∀t,t<l.size-i->l.toList[i+t]?=some (l.getD (i+t) (.none,.none))/\l[i+t]?=some (l.getD (i+t) (.none,.none)):=fun t ht=>by
  have hlt:i+t<l.size:=by omega
  have e:l.getD (i+t) (.none,.none)=l[i+t]:=by simp[Array.getD,hlt]
  rw[e]
  exact⟨by simp[hlt],by simp[hlt]⟩
 refine⟨uk,fun t ht=>⟨_,(get t ht).2,ul _ (ZsQ (get t ht).1),by rw[if_pos rfl]⟩,fun t u htu hu h=>?_⟩
 have hu':=get u hu
 have ht':=get t (by omega)
 cases hc:R (l.getD (i+t) (.none,.none)) key with
 |true=>rfl
 |false =>
  have h2:=Srt.le C ul hs (show i+t<=i+u by omega) ht'.1 hu'.1
  have:=C.tr key _ _ uk (ul _ (ZsQ ht'.1)) (ul _ (ZsQ hu'.1)) hc h2
  rw[this] at h;cases h
end
section
variable {prog:Program}{w:World}{A:Around}{E:Value->Shared->Prop}{s:Shared}{κ:SortKind}{U:Keyed->Prop}{R:Keyed->Keyed->Bool}
def UU (R:Keyed->Keyed->Bool) (a b:Array Keyed) (st:SortSt) (r:Array Keyed) (st':SortSt):Prop:=Srt R r.toList/\r.toList.Perm (a.toList++b.toList)/\∃g,st'=V4 st g
def JLo (R:Keyed->Keyed->Bool) (a b:Array Keyed) (st:SortSt) (o:Array Keyed) (i j:Nat) (st':SortSt):Prop:=MI R a.toList b.toList o.toList i j/\i+1<a.size/\j<b.size/\∃g,st'=V4 st g
theorem VL {st:SortSt}{g:Nat}{Q:Unit->SortSt->Prop} (h:Q () (V4 st g)):wpS (model prog w) A E s (Zku g) Q st:=wpS_modify h
theorem Ju {l:Array Keyed}{i:Nat} (h:i<l.size):∃x,l[i]?=some x/\l.toList[i]?=some x/\x∈l.toList:=
 ⟨l[i],by simp[h],by simp[h],by simp⟩
section
variable {st st':SortSt}{a b o:Array Keyed}{i j:Nat}
theorem MLo.finA (M:MLo U R a b) (m:MI R a.toList b.toList o.toList i j) (h:i=a.size\/j=b.size) (hg:∃g,st'=V4 st g):UU R a b st (endA a b o i j) st':=by
 obtain⟨h1,h2⟩:=m.endA M.sa M.sb (by simpa using h)
 rw[<- ZgF] at h1 h2
 exact⟨h1,h2,hg⟩
theorem MLo.finB (M:MLo U R a b) (m:MI R a.toList b.toList o.toList i j) (h:i+1=a.size) (hg:∃g,st'=V4 st g):UU R a b st (endB a b o i j) st':=by
 obtain⟨h1,h2⟩:=m.endB M.sa M.sb fun x hx y hy=>M.lst x (Zty hx) y (by
  obtain⟨t,ht⟩:=J7 hy
  have hl:=(ZsR.mp ht).1
  rw[ZsX] at hl
  rw[show a.size-1=i+t by omega];exact ht)
 rw[<- ZgE] at h1 h2
 exact⟨h1,h2,hg⟩
theorem MLo.a1 (C:UE prog w A s κ U R) (M:MLo U R a b) (m:MI R a.toList b.toList o.toList i j) {x:Keyed} (hx:a.toList[i]?=some x) (hle:∀y∈b.toList.drop j,R y x=false):MI R a.toList b.toList (o.push x).toList (i+1) j:=by
 have hi:=(ZsR.mp hx).1
 have:=m.pushA M.sa 1 (by omega) (by rw[Qi hx];intro y hy;rw[Zti.mp hy];exact hle)
 rw[Qi hx] at this
 rw[Zuz];exact this
theorem MLo.b1 (C:UE prog w A s κ U R) (M:MLo U R a b) (m:MI R a.toList b.toList o.toList i j) {x:Keyed} (hx:b.toList[j]?=some x) (hle:∀y∈a.toList.drop i,R y x=false):MI R a.toList b.toList (o.push x).toList i (j+1):=by
 have hj:=(ZsR.mp hx).1
 have:=m.pushB M.sb 1 (by omega) (by rw[Qi hx];intro y hy;rw[Zti.mp hy];exact hle)
 rw[Qi hx] at this
 rw[Zuz];exact this
theorem UI (l:Array Keyed) (i k:Nat):(o++l.extract i (i+k)).toList=o.toList++(l.toList.drop i).take k:=by
 simp only[ZuI,ZtZ,Zt4]
 rw[show i+k-i=k by omega]
end
theorem ZJ {l:Array Keyed}{i:Nat}{x:Keyed} (h:l.toList[i]?=some x):l.getD i (.none,.none)=x:=by
 have hi:=ZsR.mp h
 have hs:i<l.size:=by simpa using hi.1
 simp only[Array.getD,hs,dif_pos]
 exact hi.2
theorem ZbY (C:UE prog w A s κ U R) {st:SortSt}{a b:Array Keyed}{Q:Array Keyed->SortSt->Prop} (hk:kindOf st=κ) (M:MLo U R a b)
  (h:∀o st',UU R a b st o st'->Q o st'):wpS (model prog w) A E s (ZaL a b) Q st:=by
 rw[Zcu]
 obtain⟨b0,hb0,hb0l,hb0m⟩:=Ju M.nb
 obtain⟨a0,ha0,ha0l,ha0m⟩:=Ju M.na
 refine wpS_bind (wpS_lift (wpAny_rule ⟨rfl, ?_⟩))
 refine wpS_bind (Zn hb0 ?_)
 dsimp only
 have m0:MI R a.toList b.toList (#[]:Array Keyed).toList 0 0:=⟨by simp,List.Pairwise.nil,fun x hx=>by simp at hx,fun x hx=>by simp at hx,Ztp _,Ztp _⟩
 have m1:MI R a.toList b.toList (#[b0]:Array Keyed).toList 0 1:=MLo.b1 C M m0 hb0l (C.dropLe M.ua M.sa ha0l (M.ub _ hb0m) (M.fst _ _ hb0l ha0l))
 have g0:∃g,st=V4 st g:=⟨gallopOf st,rfl⟩
 by_cases c1:1=b.size
 ·rw[if_pos (by simpa using c1)]
  exact wpS_pure (h _ _ (M.finA m1 (.inr c1) g0))
 rw[if_neg (by simpa using c1)]
 by_cases c2:0+1=a.size
 ·rw[if_pos (by simpa using c2)]
  exact wpS_pure (h _ _ (M.finB m1 c2 g0))
 rw[if_neg (by simpa using c2)]
 refine wpS_bind (wpS_get ?_)
 have na:=M.na
 have nb:=M.nb
 refine wpS_bind (wpS_mono (wpS_forRange
  (I:=fun x (c:Option (Array Keyed)×Array Keyed×Nat×Nat×Nat) (st':SortSt)=>c.1=none/\JLo R a b st c.2.1 c.2.2.1 c.2.2.2.1 st'/\x+1<=c.2.2.1+c.2.2.2.1)
  (Q:=fun(c:Option (Array Keyed)×Array Keyed×Nat×Nat×Nat) (st':SortSt)=>∃r,c.1=some r/\UU R a b st r st') ?step ?fin ⟨rfl,⟨m1,by dsimp only;omega,by dsimp only;omega,g0⟩,ZsU _⟩) ?post)
 case fin =>
  rintro⟨o1,o,i,j,g⟩ st' ⟨h1,⟨h2,h3,h4,h5⟩,h6⟩
  dsimp only at h3 h4 h6
  omega
 case post =>
  rintro⟨o1,o,i,j,g⟩ st' ⟨r,h1,h2⟩
  dsimp only at h1
  subst h1
  exact wpS_pure (h _ _ h2)
 case step =>
  rintro x ⟨o1,o,i,j,g⟩ st1 _ hx ⟨rfl,J,hm⟩
  dsimp only at J hm ⊢
  refine wpS_bind (wpS_mono (wpS_forRange
   (I:=fun x' (c:Option (Array Keyed)×Array Keyed×Nat×Nat×Nat×Nat) (st':SortSt)=>c.1=none/\JLo R a b st c.2.1 c.2.2.1 c.2.2.2.1 st'/\i+j+x'<=c.2.2.1+c.2.2.2.1)
   (Q:=fun(c:Option (Array Keyed)×Array Keyed×Nat×Nat×Nat×Nat) (st':SortSt)=>(∃r,c.1=some r/\UU R a b st r st')\/(c.1=none/\JLo R a b st c.2.1 c.2.2.1 c.2.2.2.1 st'/\i+j+1<=c.2.2.1+c.2.2.2.1)) ?step1 ?fin1 ⟨rfl,J,ZsU _⟩) ?post1)
  case fin1 =>
   rintro⟨o1,o',i',j',u,v⟩ st' ⟨h1,h2,h3⟩
   dsimp only at h1 h2 h3
   exact .inr ⟨h1,h2,by dsimp only;omega⟩
  case step1 =>
   rintro x' ⟨o1,o',i',j',u,v⟩ st' _ hx' ⟨rfl,⟨m,hi,hj,gs,rfl⟩,hp⟩
   dsimp only at m hi hj hp ⊢
   obtain⟨y,hy,hyl,hym⟩:=Ju hj
   obtain⟨z,hz,hzl,hzm⟩:=Ju (show i'<a.size by omega)
   refine wpS_bind (Zn hy (wpS_bind (Zn hz (wpS_bind (Qy C hk (M.ub _ hym) (M.ua _ hzm) ?_)))))
   dsimp only
   cases hR:R y z with
   |true =>
    rw[if_pos rfl]
    refine wpS_bind (Zn hy ?_)
    have m2:=MLo.b1 C M m hyl (C.dropLe M.ua M.sa hzl (M.ub _ hym) (C.asy _ _ (M.ub _ hym) (M.ua _ hzm) hR))
    by_cases e1:j'+1=b.size
    ·rw[if_pos (by simpa using e1)]
     exact wpS_pure (.inl ⟨_,rfl,M.finA m2 (.inr e1) ⟨gs,rfl⟩⟩)
    ·rw[if_neg (by simpa using e1)]
     have J2:JLo R a b st (o'.push y) i' (j'+1) (V4 st gs):=⟨m2,hi,by omega,gs,rfl⟩
     split
     ·exact wpS_pure (.inr ⟨rfl,J2,by dsimp only;omega⟩)
     ·exact wpS_pure ⟨rfl,J2,by dsimp only;omega⟩
   |false =>
    rw[if_neg (by decide)]
    refine wpS_bind (Zn hz ?_)
    have m2:=MLo.a1 C M m hzl (C.dropLe M.ub M.sb hyl (M.ua _ hzm) hR)
    by_cases e1:i'+1+1=a.size
    ·rw[if_pos (by simpa using e1)]
     exact wpS_pure (.inl ⟨_,rfl,M.finB m2 e1 ⟨gs,rfl⟩⟩)
    ·rw[if_neg (by simpa using e1)]
     have J2:JLo R a b st (o'.push z) (i'+1) j' (V4 st gs):=⟨m2,by omega,hj,gs,rfl⟩
     split
     ·exact wpS_pure (.inr ⟨rfl,J2,by dsimp only;omega⟩)
     ·exact wpS_pure ⟨rfl,J2,by dsimp only;omega⟩
  case post1 =>
   rintro⟨o1,o',i',j',u,v⟩ st' (⟨r,h1,h2⟩|⟨h1,h2,h3⟩)
   ·dsimp only at h1 h2 ⊢
    subst h1
    exact wpS_pure ⟨r,rfl,h2⟩
   ·dsimp only at h1 h2 h3 ⊢
    subst h1
    refine wpS_bind (wpS_lift (wpAny_rule ⟨rfl, ?_⟩))
    refine wpS_bind (wpS_mono (wpS_forRange
     (I:=fun _ (c:Option (Array Keyed)×Array Keyed×Nat×Nat×Nat×Nat×Nat) (st':SortSt)=>c.1=none/\JLo R a b st c.2.1 c.2.2.1 c.2.2.2.1 st'/\x+1+1<=c.2.2.1+c.2.2.2.1)
     (Q:=fun(c:Option (Array Keyed)×Array Keyed×Nat×Nat×Nat×Nat×Nat) (st':SortSt)=>(∃r,c.1=some r/\UU R a b st r st')\/(c.1=none/\JLo R a b st c.2.1 c.2.2.1 c.2.2.2.1 st'/\x+1+1<=c.2.2.1+c.2.2.2.1)) ?step2 (fun c st' hc=>.inr hc) ⟨rfl,h2,by dsimp only;omega⟩) ?post2)
    case post2 =>
     rintro⟨o1,o',i',j',g',u,v⟩ st' (⟨r,h1,h2⟩|⟨h1,h2,h3⟩)
     ·dsimp only at h1 h2 ⊢
      subst h1
      exact wpS_pure ⟨r,rfl,h2⟩
     ·dsimp only at h1 h2 h3 ⊢
      subst h1
      obtain⟨m,hi,hj,gs,rfl⟩:=h2
      exact wpS_bind (VL (wpS_pure ⟨rfl,⟨m,hi,hj,_,rfl⟩,by dsimp only;omega⟩))
    case step2 =>
     clear h2 h3 J hm m0 m1
     rintro x' ⟨o1,o,i,j,g,u,v⟩ st' _ hx' ⟨rfl,⟨m,hi,hj,gs,rfl⟩,hp⟩
     dsimp only at m hi hj hp ⊢
     obtain⟨y,hy,hyl,hym⟩:=Ju hj
     by_cases hg1:g>1
     ·rw[if_pos hg1]
      refine wpS_bind (VL ?_)
      refine wpS_bind (Zn hy (wpS_bind (ZG C (show kindOf (V4 _ _)=κ from hk) (ZgU C M.ua M.sa (M.ub _ hym) (show i<=a.size by omega)) (by omega) fun k p1 p2 p3=>?_)))
      dsimp only
      have fb2:∀z∈a.toList.drop (i+k),R z y=false:=fun z hz=>by
       obtain⟨t,ht⟩:=J7 hz
       have hl:=(ZsR.mp ht).1
       rw[ZsX] at hl
       have:=p3 (k+t) (by omega) (by omega)
       rw[show i+(k+t)=i+k+t by omega,ZJ ht] at this
       exact C.asy _ _ (M.ub _ hym) (M.ua _ (ZsQ ht)) (by simpa using this)
      by_cases hk1:k>0
      ·rw[if_pos hk1]
       have m2:=m.pushA M.sa k (by rw[ZsX];omega) (fun x hx z hz=>by
        obtain⟨t,htk,ht⟩:=UQ hx
        have h1:=p2 t htk
        rw[ZJ ht] at h1
        exact C.dropLe M.ub M.sb hyl (M.ua x (ZsQ ht)) (by simpa using h1) z hz)
       rw[<- UI] at m2
       by_cases e0:i+k+1=a.size
       ·rw[if_pos (by simpa using e0)]
        exact wpS_pure (.inl ⟨_,rfl,M.finB m2 e0 ⟨_,rfl⟩⟩)
       rw[if_neg (by simpa using e0)]
       by_cases e1:i+k=a.size
       ·rw[if_pos (by simpa using e1)]
        exact wpS_pure (.inl ⟨_,rfl,M.finA m2 (.inl e1) ⟨_,rfl⟩⟩)
       rw[if_neg (by simpa using e1)]
       have fb:=fb2
       refine wpS_bind (Zn hy ?_)
       have m2':=MLo.b1 C M m2 hyl fb
       by_cases e2:j+1=b.size
       ·rw[if_pos (by simpa using e2)]
        exact wpS_pure (.inl ⟨_,rfl,M.finA m2' (.inr e2) ⟨_,rfl⟩⟩)
       rw[if_neg (by simpa using e2)]
       obtain⟨z,hz,hzl,hzm⟩:=Ju (show i+k<a.size by omega)
       refine wpS_bind (Zn hz (wpS_bind (ZG C hk (Zbw C M.ub M.sb (M.ua _ hzm) (show j+1<=b.size by omega)) (by omega) fun k2 q1 q2 q3=>?_)))
       dsimp only
       have fz2:∀y∈b.toList.drop (j+1+k2),R y z=false:=fun y hy=>by
        obtain⟨t,ht⟩:=J7 hy
        have hl:=(ZsR.mp ht).1
        rw[ZsX] at hl
        have:=q3 (k2+t) (by omega) (by omega)
        rw[show j+1+(k2+t)=j+1+k2+t by omega,ZJ ht] at this
        exact this
       by_cases hk2:k2>0
       ·rw[if_pos hk2]
        have m3:=m2'.pushB M.sb k2 (by rw[ZsX];omega) (fun x hx y hy=>by
         obtain⟨t,htk,ht⟩:=UQ hx
         have h1:=q2 t htk
         rw[ZJ ht] at h1
         have ux:=M.ub x (ZsQ ht)
         have h2:=C.dropLe M.ua M.sa hzl ux (C.asy _ _ ux (M.ua _ hzm) h1)
         exact h2 y hy)
        rw[<- UI] at m3
        by_cases e3:j+1+k2=b.size
        ·rw[if_pos (by simpa using e3)]
         exact wpS_pure (.inl ⟨_,rfl,M.finA m3 (.inr e3) ⟨_,rfl⟩⟩)
        rw[if_neg (by simpa using e3)]
        have hj3:j+1+k2<b.size:=by omega
        have fz:=fz2
        refine wpS_bind (Zn hz ?_)
        have m4:=MLo.a1 C M m3 hzl fz
        by_cases e4:i+k+1+1=a.size
        ·rw[if_pos (by simpa using e4)]
         exact wpS_pure (.inl ⟨_,rfl,M.finB m4 e4 ⟨_,rfl⟩⟩)
        ·rw[if_neg (by simpa using e4)]
         split
         ·exact wpS_pure (.inr ⟨rfl,⟨m4,by dsimp only;omega,hj3,_,rfl⟩,by dsimp only;omega⟩)
         ·exact wpS_pure ⟨rfl,⟨m4,by dsimp only;omega,hj3,_,rfl⟩,by dsimp only;omega⟩
       ·rw[if_neg hk2]
        obtain rfl:k2=0:=by omega
        have m3:=m2'
        have hj3:j+1<b.size:=by omega
        have fz:∀y∈b.toList.drop (j+1),R y z=false:=fz2
        refine wpS_bind (Zn hz ?_)
        have m4:=MLo.a1 C M m3 hzl fz
        by_cases e4:i+k+1+1=a.size
        ·rw[if_pos (by simpa using e4)]
         exact wpS_pure (.inl ⟨_,rfl,M.finB m4 e4 ⟨_,rfl⟩⟩)
        ·rw[if_neg (by simpa using e4)]
         split
         ·exact wpS_pure (.inr ⟨rfl,⟨m4,by dsimp only;omega,hj3,_,rfl⟩,by dsimp only;omega⟩)
         ·exact wpS_pure ⟨rfl,⟨m4,by dsimp only;omega,hj3,_,rfl⟩,by dsimp only;omega⟩
      ·rw[if_neg hk1]
       obtain rfl:k=0:=by omega
       have m2:=m
       have fb:∀z∈a.toList.drop i,R z y=false:=fb2
       refine wpS_bind (Zn hy ?_)
       have m2':=MLo.b1 C M m2 hyl fb
       by_cases e2:j+1=b.size
       ·rw[if_pos (by simpa using e2)]
        exact wpS_pure (.inl ⟨_,rfl,M.finA m2' (.inr e2) ⟨_,rfl⟩⟩)
       rw[if_neg (by simpa using e2)]
       obtain⟨z,hz,hzl,hzm⟩:=Ju (show i<a.size by omega)
       refine wpS_bind (Zn hz (wpS_bind (ZG C hk (Zbw C M.ub M.sb (M.ua _ hzm) (show j+1<=b.size by omega)) (by omega) fun k2 q1 q2 q3=>?_)))
       dsimp only
       have fz2:∀y∈b.toList.drop (j+1+k2),R y z=false:=fun y hy=>by
        obtain⟨t,ht⟩:=J7 hy
        have hl:=(ZsR.mp ht).1
        rw[ZsX] at hl
        have:=q3 (k2+t) (by omega) (by omega)
        rw[show j+1+(k2+t)=j+1+k2+t by omega,ZJ ht] at this
        exact this
       by_cases hk2:k2>0
       ·rw[if_pos hk2]
        have m3:=m2'.pushB M.sb k2 (by rw[ZsX];omega) (fun x hx y hy=>by
         obtain⟨t,htk,ht⟩:=UQ hx
         have h1:=q2 t htk
         rw[ZJ ht] at h1
         have ux:=M.ub x (ZsQ ht)
         have h2:=C.dropLe M.ua M.sa hzl ux (C.asy _ _ ux (M.ua _ hzm) h1)
         exact h2 y hy)
        rw[<- UI] at m3
        by_cases e3:j+1+k2=b.size
        ·rw[if_pos (by simpa using e3)]
         exact wpS_pure (.inl ⟨_,rfl,M.finA m3 (.inr e3) ⟨_,rfl⟩⟩)
        rw[if_neg (by simpa using e3)]
        have hj3:j+1+k2<b.size:=by omega
        have fz:=fz2
        refine wpS_bind (Zn hz ?_)
        have m4:=MLo.a1 C M m3 hzl fz
        by_cases e4:i+1+1=a.size
        ·rw[if_pos (by simpa using e4)]
         exact wpS_pure (.inl ⟨_,rfl,M.finB m4 e4 ⟨_,rfl⟩⟩)
        ·rw[if_neg (by simpa using e4)]
         split
         ·exact wpS_pure (.inr ⟨rfl,⟨m4,by dsimp only;omega,hj3,_,rfl⟩,by dsimp only;omega⟩)
         ·exact wpS_pure ⟨rfl,⟨m4,by dsimp only;omega,hj3,_,rfl⟩,by dsimp only;omega⟩
       ·rw[if_neg hk2]
        obtain rfl:k2=0:=by omega
        have m3:=m2'
        have hj3:j+1<b.size:=by omega
        have fz:∀y∈b.toList.drop (j+1),R y z=false:=fz2
        refine wpS_bind (Zn hz ?_)
        have m4:=MLo.a1 C M m3 hzl fz
        by_cases e4:i+1+1=a.size
        ·rw[if_pos (by simpa using e4)]
         exact wpS_pure (.inl ⟨_,rfl,M.finB m4 e4 ⟨_,rfl⟩⟩)
        ·rw[if_neg (by simpa using e4)]
         split
         ·exact wpS_pure (.inr ⟨rfl,⟨m4,by dsimp only;omega,hj3,_,rfl⟩,by dsimp only;omega⟩)
         ·exact wpS_pure ⟨rfl,⟨m4,by dsimp only;omega,hj3,_,rfl⟩,by dsimp only;omega⟩
     ·rw[if_neg hg1]
      refine wpS_bind (VL ?_)
      refine wpS_bind (Zn hy (wpS_bind (ZG C (show kindOf (V4 _ _)=κ from hk) (ZgU C M.ua M.sa (M.ub _ hym) (show i<=a.size by omega)) (by omega) fun k p1 p2 p3=>?_)))
      dsimp only
      have fb2:∀z∈a.toList.drop (i+k),R z y=false:=fun z hz=>by
       obtain⟨t,ht⟩:=J7 hz
       have hl:=(ZsR.mp ht).1
       rw[ZsX] at hl
       have:=p3 (k+t) (by omega) (by omega)
       rw[show i+(k+t)=i+k+t by omega,ZJ ht] at this
       exact C.asy _ _ (M.ub _ hym) (M.ua _ (ZsQ ht)) (by simpa using this)
      by_cases hk1:k>0
      ·rw[if_pos hk1]
       have m2:=m.pushA M.sa k (by rw[ZsX];omega) (fun x hx z hz=>by
        obtain⟨t,htk,ht⟩:=UQ hx
        have h1:=p2 t htk
        rw[ZJ ht] at h1
        exact C.dropLe M.ub M.sb hyl (M.ua x (ZsQ ht)) (by simpa using h1) z hz)
       rw[<- UI] at m2
       by_cases e0:i+k+1=a.size
       ·rw[if_pos (by simpa using e0)]
        exact wpS_pure (.inl ⟨_,rfl,M.finB m2 e0 ⟨_,rfl⟩⟩)
       rw[if_neg (by simpa using e0)]
       by_cases e1:i+k=a.size
       ·rw[if_pos (by simpa using e1)]
        exact wpS_pure (.inl ⟨_,rfl,M.finA m2 (.inl e1) ⟨_,rfl⟩⟩)
       rw[if_neg (by simpa using e1)]
       have fb:=fb2
       refine wpS_bind (Zn hy ?_)
       have m2':=MLo.b1 C M m2 hyl fb
       by_cases e2:j+1=b.size
       ·rw[if_pos (by simpa using e2)]
        exact wpS_pure (.inl ⟨_,rfl,M.finA m2' (.inr e2) ⟨_,rfl⟩⟩)
       rw[if_neg (by simpa using e2)]
       obtain⟨z,hz,hzl,hzm⟩:=Ju (show i+k<a.size by omega)
       refine wpS_bind (Zn hz (wpS_bind (ZG C hk (Zbw C M.ub M.sb (M.ua _ hzm) (show j+1<=b.size by omega)) (by omega) fun k2 q1 q2 q3=>?_)))
       dsimp only
       have fz2:∀y∈b.toList.drop (j+1+k2),R y z=false:=fun y hy=>by
        obtain⟨t,ht⟩:=J7 hy
        have hl:=(ZsR.mp ht).1
        rw[ZsX] at hl
        have:=q3 (k2+t) (by omega) (by omega)
        rw[show j+1+(k2+t)=j+1+k2+t by omega,ZJ ht] at this
        exact this
       by_cases hk2:k2>0
       ·rw[if_pos hk2]
        have m3:=m2'.pushB M.sb k2 (by rw[ZsX];omega) (fun x hx y hy=>by
         obtain⟨t,htk,ht⟩:=UQ hx
         have h1:=q2 t htk
         rw[ZJ ht] at h1
         have ux:=M.ub x (ZsQ ht)
         have h2:=C.dropLe M.ua M.sa hzl ux (C.asy _ _ ux (M.ua _ hzm) h1)
         exact h2 y hy)
        rw[<- UI] at m3
        by_cases e3:j+1+k2=b.size
        ·rw[if_pos (by simpa using e3)]
         exact wpS_pure (.inl ⟨_,rfl,M.finA m3 (.inr e3) ⟨_,rfl⟩⟩)
        rw[if_neg (by simpa using e3)]
        have hj3:j+1+k2<b.size:=by omega
        have fz:=fz2
        refine wpS_bind (Zn hz ?_)
        have m4:=MLo.a1 C M m3 hzl fz
        by_cases e4:i+k+1+1=a.size
        ·rw[if_pos (by simpa using e4)]
         exact wpS_pure (.inl ⟨_,rfl,M.finB m4 e4 ⟨_,rfl⟩⟩)
        ·rw[if_neg (by simpa using e4)]
         split
         ·exact wpS_pure (.inr ⟨rfl,⟨m4,by dsimp only;omega,hj3,_,rfl⟩,by dsimp only;omega⟩)
         ·exact wpS_pure ⟨rfl,⟨m4,by dsimp only;omega,hj3,_,rfl⟩,by dsimp only;omega⟩
       ·rw[if_neg hk2]
        obtain rfl:k2=0:=by omega
        have m3:=m2'
        have hj3:j+1<b.size:=by omega
        have fz:∀y∈b.toList.drop (j+1),R y z=false:=fz2
        refine wpS_bind (Zn hz ?_)
        have m4:=MLo.a1 C M m3 hzl fz
        by_cases e4:i+k+1+1=a.size
        ·rw[if_pos (by simpa using e4)]
         exact wpS_pure (.inl ⟨_,rfl,M.finB m4 e4 ⟨_,rfl⟩⟩)
        ·rw[if_neg (by simpa using e4)]
         split
         ·exact wpS_pure (.inr ⟨rfl,⟨m4,by dsimp only;omega,hj3,_,rfl⟩,by dsimp only;omega⟩)
         ·exact wpS_pure ⟨rfl,⟨m4,by dsimp only;omega,hj3,_,rfl⟩,by dsimp only;omega⟩
      ·rw[if_neg hk1]
       obtain rfl:k=0:=by omega
       have m2:=m
       have fb:∀z∈a.toList.drop i,R z y=false:=fb2
       refine wpS_bind (Zn hy ?_)
       have m2':=MLo.b1 C M m2 hyl fb
       by_cases e2:j+1=b.size
       ·rw[if_pos (by simpa using e2)]
        exact wpS_pure (.inl ⟨_,rfl,M.finA m2' (.inr e2) ⟨_,rfl⟩⟩)
       rw[if_neg (by simpa using e2)]
       obtain⟨z,hz,hzl,hzm⟩:=Ju (show i<a.size by omega)
       refine wpS_bind (Zn hz (wpS_bind (ZG C hk (Zbw C M.ub M.sb (M.ua _ hzm) (show j+1<=b.size by omega)) (by omega) fun k2 q1 q2 q3=>?_)))
       dsimp only
       have fz2:∀y∈b.toList.drop (j+1+k2),R y z=false:=fun y hy=>by
        obtain⟨t,ht⟩:=J7 hy
        have hl:=(ZsR.mp ht).1
        rw[ZsX] at hl
        have:=q3 (k2+t) (by omega) (by omega)
        rw[show j+1+(k2+t)=j+1+k2+t by omega,ZJ ht] at this
        exact this
       by_cases hk2:k2>0
       ·rw[if_pos hk2]
        have m3:=m2'.pushB M.sb k2 (by rw[ZsX];omega) (fun x hx y hy=>by
         obtain⟨t,htk,ht⟩:=UQ hx
         have h1:=q2 t htk
         rw[ZJ ht] at h1
         have ux:=M.ub x (ZsQ ht)
         have h2:=C.dropLe M.ua M.sa hzl ux (C.asy _ _ ux (M.ua _ hzm) h1)
         exact h2 y hy)
        rw[<- UI] at m3
        by_cases e3:j+1+k2=b.size
        ·rw[if_pos (by simpa using e3)]
         exact wpS_pure (.inl ⟨_,rfl,M.finA m3 (.inr e3) ⟨_,rfl⟩⟩)
        rw[if_neg (by simpa using e3)]
        have hj3:j+1+k2<b.size:=by omega
        have fz:=fz2
        refine wpS_bind (Zn hz ?_)
        have m4:=MLo.a1 C M m3 hzl fz
        by_cases e4:i+1+1=a.size
        ·rw[if_pos (by simpa using e4)]
         exact wpS_pure (.inl ⟨_,rfl,M.finB m4 e4 ⟨_,rfl⟩⟩)
        ·rw[if_neg (by simpa using e4)]
         split
         ·exact wpS_pure (.inr ⟨rfl,⟨m4,by dsimp only;omega,hj3,_,rfl⟩,by dsimp only;omega⟩)
         ·exact wpS_pure ⟨rfl,⟨m4,by dsimp only;omega,hj3,_,rfl⟩,by dsimp only;omega⟩
       ·rw[if_neg hk2]
        obtain rfl:k2=0:=by omega
        have m3:=m2'
        have hj3:j+1<b.size:=by omega
        have fz:∀y∈b.toList.drop (j+1),R y z=false:=fz2
        refine wpS_bind (Zn hz ?_)
        have m4:=MLo.a1 C M m3 hzl fz
        by_cases e4:i+1+1=a.size
        ·rw[if_pos (by simpa using e4)]
         exact wpS_pure (.inl ⟨_,rfl,M.finB m4 e4 ⟨_,rfl⟩⟩)
        ·rw[if_neg (by simpa using e4)]
         split
         ·exact wpS_pure (.inr ⟨rfl,⟨m4,by dsimp only;omega,hj3,_,rfl⟩,by dsimp only;omega⟩)
         ·exact wpS_pure ⟨rfl,⟨m4,by dsimp only;omega,hj3,_,rfl⟩,by dsimp only;omega⟩
end
noncomputable def ZaM:Array Keyed->Array Keyed->StateT SortSt Sem (Array Keyed):=sortPriv% PySem.Builtin.mergeHi
noncomputable def hiA (a b o:Array Keyed) (i j:Nat):Array Keyed:=a.extract 0 i++b.extract 0 j++o.reverse
noncomputable def hiB (a b o:Array Keyed) (i j:Nat):Array Keyed:=b.extract 0 j++a.extract 0 i++o.reverse
theorem Zcv (a b:Array Keyed):ZaM a b=(do
  rule "list.sort.merge-hi"
  let n:=a.size+b.size
  let mut i:=a.size-1
  let mut j:=b.size
  let mut o:Array Keyed:=#[<- elem' a i]
  if i==0 then return hiA a b o i j
  if j==1 then return hiB a b o i j
  let mut g:=gallopOf (<- get)
  for _ in [0:n] do
   let mut x:=0
   let mut y:=0
   for _ in [0:n] do
    let some t <- lt' (<- elem' b (j-1)) (<- elem' a (i-1))|return hiA a b o i j
    if t then
     i:=i-1;o:=o.push (<- elem' a i);x:=x+1;y:=0
     if i==0 then return hiA a b o i j
     if x ≥ g then break
    else
     j:=j-1;o:=o.push (<- elem' b j);y:=y+1;x:=0
     if j==1 then return hiB a b o i j
     if y ≥ g then break
   rule "list.sort.gallop"
   g:=g+1
   for _ in [0:n] do
    if g>1 then g:=g-1
    Zku g
    let some q <- VG false (<- elem' b (j-1)) a 0 i (i-1)|return hiA a b o i j
    let k:=i-q
    x:=k
    if k>0 then
     o:=o++(a.extract q i).reverse;i:=q
     if i==0 then return hiA a b o i j
    j:=j-1;o:=o.push (<- elem' b j)
    if j==1 then return hiB a b o i j
    let some q <- VG true (<- elem' a (i-1)) b 0 j (j-1)|return hiA a b o i j
    let k:=j-q
    y:=k
    if k>0 then
     o:=o++(b.extract q j).reverse;j:=q
     if j==1 then return hiB a b o i j
     if j==0 then return hiA a b o i j
    i:=i-1;o:=o.push (<- elem' a i)
    if i==0 then return hiA a b o i j
    if x<7&&y<7 then break
   g:=g+1
   Zku g
  unsupported "internal:list.sort.merge-bound"):=rfl
structure MH (R:Keyed->Keyed->Bool) (a b q:List Keyed) (i j:Nat):Prop where
 perm:q.Perm (a.drop i++b.drop j)
 srt:Srt R q
 ga:∀x∈a.take i,∀y∈q,R y x=false
 gb:∀x∈b.take j,∀y∈q,R y x=false
 hi:i<=a.length
 hj:j<=b.length
section
variable {R:Keyed->Keyed->Bool}{a b q:List Keyed}{i j:Nat}
theorem Ve (l:List Keyed) {c i:Nat} (h:c<=i):l.take c++(l.take i).drop c=l.take i:=by
 rw[show l.take c=(l.take i).take c by rw[List.take_take,Nat.min_eq_left h]]
 exact Ztq c (l.take i)
theorem Zaw (l:List Keyed) {c i:Nat} (h:c<=i):(l.take i).drop c++l.drop i=l.drop c:=by
 have e:l.take c++((l.take i).drop c++l.drop i)=l.take c++l.drop c:=by
  rw[<- Zta,Ve l h,Ztq,Ztq]
 exact List.append_cancel_left e
theorem Srt.take {l:List Keyed} (h:Srt R l) (i:Nat):Srt R (l.take i):=h.sublist (List.take_sublist i l)
theorem MH.pushA (M:MH R a b q i j) (sa:Srt R a) {c:Nat} (hc:c<=i) (hle:∀x∈b.take j,∀y∈(a.take i).drop c,R y x=false):MH R a b ((a.take i).drop c++q) c j:=by
 have sd:=sa.take i
 rw[<- Ve a hc] at sd
 obtain⟨s1,s2,s3⟩:=Zte.mp sd
 refine⟨?_, ?_, ?_, ?_,Ztu hc M.hi,M.hj⟩
 ·refine(List.Perm.append_left _ M.perm).trans ?_
  rw[<- Zta,Zaw a hc]
 ·exact Zte.mpr ⟨s2,M.srt,fun x hx y hy=>M.ga x (Zty hx) y hy⟩
 ·intro x hx y hy
  rcases ZsS.mp hy with hy|hy
  ·exact s3 x hx y hy
  ·exact M.ga x (by rw[<- Ve a hc];exact ZsW _ hx) y hy
 ·intro x hx y hy
  rcases ZsS.mp hy with hy|hy
  ·exact hle x hx y hy
  ·exact M.gb x hx y hy
theorem MH.pushB (M:MH R a b q i j) (sb:Srt R b) {c:Nat} (hc:c<=j) (hle:∀x∈a.take i,∀y∈(b.take j).drop c,R y x=false):MH R a b ((b.take j).drop c++q) i c:=by
 have sd:=sb.take j
 rw[<- Ve b hc] at sd
 obtain⟨s1,s2,s3⟩:=Zte.mp sd
 refine⟨?_, ?_, ?_, ?_,M.hi,Ztu hc M.hj⟩
 ·refine(List.Perm.append_left _ M.perm).trans ?_
  rw[<- Zaw b hc]
  have:∀X Y Z:List Keyed,(X++(Y++Z)).Perm (Y++(X++Z)):=fun X Y Z=>by
   rw[<- Zta,<- Zta]
   exact List.Perm.append_right _ ZtO
  exact this _ _ _
 ·exact Zte.mpr ⟨s2,M.srt,fun x hx y hy=>M.gb x (Zty hx) y hy⟩
 ·intro x hx y hy
  rcases ZsS.mp hy with hy|hy
  ·exact hle x hx y hy
  ·exact M.ga x hx y hy
 ·intro x hx y hy
  rcases ZsS.mp hy with hy|hy
  ·exact s3 x hx y hy
  ·exact M.gb x (by rw[<- Ve b hc];exact ZsW _ hx) y hy
theorem MH.all_perm (M:MH R a b q i j):(a.take i++(b.take j++q)).Perm (a++b):=by
 refine(List.Perm.append_left _ (List.Perm.append_left _ M.perm)).trans ?_
 have p1:∀X Y Z W:List Keyed,(X++(Y++(Z++W))).Perm ((X++Z)++(Y++W)):=fun X Y Z W=>by
  rw[Zta]
  refine List.Perm.append_left _ ?_
  rw[<- Zta,<- Zta]
  exact List.Perm.append_right _ ZtO
 refine(p1 _ _ _ _).trans ?_
 rw[Ztq,Ztq]
theorem MH.endA (M:MH R a b q i j) (sa:Srt R a) (sb:Srt R b) (h:i=0\/j=0):Srt R (a.take i++(b.take j++q))/\(a.take i++(b.take j++q)).Perm (a++b):=by
 refine⟨?_,M.all_perm⟩
 have sq:Srt R (b.take j++q):=Zte.mpr ⟨sb.take j,M.srt,M.gb⟩
 refine Zte.mpr ⟨sa.take i,sq,fun x hx y hy=>?_⟩
 rcases h with h|h
 ·rw[h,List.take_zero] at hx;simp at hx
 ·rw[h,List.take_zero,ZtT] at hy
  exact M.ga x hx y hy
theorem MH.endB (M:MH R a b q i j) (sa:Srt R a) (sb:Srt R b) (h:∀x∈b.take j,∀y∈a.take i,R y x=false):Srt R (b.take j++(a.take i++q))/\(b.take j++(a.take i++q)).Perm (a++b):=by
 refine⟨?_, ?_⟩
 ·refine Zte.mpr ⟨sb.take j,Zte.mpr ⟨sa.take i,M.srt,M.ga⟩,fun x hx y hy=>?_⟩
  rcases ZsS.mp hy with hy|hy
  ·exact h x hx y hy
  ·exact M.gb x hx y hy
 ·refine List.Perm.trans ?_ M.all_perm
  rw[<- Zta,<- Zta]
  exact List.Perm.append_right _ ZtO
end
section
variable {prog:Program}{w:World}{A:Around}{E:Value->Shared->Prop}{s:Shared}{κ:SortKind}{U:Keyed->Prop}{R:Keyed->Keyed->Bool}
theorem Qd.le {left:Bool}{key:Keyed}{arr:Array Keyed}{base n m:Nat}{P:Nat->Bool} (K:Qd U R left key arr base m P) (h:n<=m):Qd U R left key arr base n P:=
 ⟨K.uk,fun i hi=>K.it i (by omega),fun i j h1 h2 h3=>K.mono i j h1 (by omega) h3⟩
theorem UE.takeLe (C:UE prog w A s κ U R) {l:List Keyed}{n:Nat}{v z:Keyed} (ul:∀y∈l,U y) (hs:Srt R l) (hn:0<n) (hz:l[n-1]?=some z) (uv:U v) (h:R v z=false):∀x∈l.take n,R v x=false:=fun x hx=>by
 obtain⟨t,ht⟩:=ZtK hx
 rw[Zt8] at ht
 split at ht
 ·rename_i htn
  have h1:=Srt.le C ul hs (show t<=n-1 by omega) ht hz
  exact C.tr x z v (ul x (ZsQ ht)) (ul z (ZsQ hz)) uv h1 h
 ·cases ht
theorem U1 {l:List Keyed}{i:Nat}{x:Keyed} (h:x∈l.take i):∃t,t<i/\l[t]?=some x:=by
 obtain⟨t,ht⟩:=ZtK h
 rw[Zt8] at ht
 split at ht
 ·rename_i hi;exact⟨t,hi,ht⟩
 ·cases ht
theorem VP {l:List Keyed}{i c:Nat}{x:Keyed} (h:x∈(l.take i).drop c):∃t,(c<=t/\t<i)/\l[t]?=some x:=by
 obtain⟨t,ht⟩:=ZtK h
 rw[ZtB,Zt8] at ht
 split at ht
 ·rename_i hi;exact⟨c+t,by omega,ht⟩
 ·cases ht
theorem Qj {l:List Keyed}{i:Nat}{x:Keyed} (hi:0<i) (h:l[i-1]?=some x):(l.take i).drop (i-1)=[x]:=by
 have hl:=ZsR.mp h
 have e:(l.take i)[i-1]?=some x:=by rw[Zt8,if_pos (by omega),h]
 have h2:=ZsR.mp e
 rw[Zth h2.1,h2.2,ZtN (by rw[Ztk];omega)]
theorem Zi6 (a b o:Array Keyed) (i j:Nat):(hiA a b o i j).toList=a.toList.take i++(b.toList.take j++o.toList.reverse):=by
 simp[hiA,Zta,Zt4]
theorem Zi5 (a b o:Array Keyed) (i j:Nat):(hiB a b o i j).toList=b.toList.take j++(a.toList.take i++o.toList.reverse):=by
 simp[hiB,Zta,Zt4]
theorem UH (l o:Array Keyed) (q i:Nat):(o++(l.extract q i).reverse).toList.reverse=(l.toList.take i).drop q++o.toList.reverse:=by
 simp[Zt4,List.drop_take]
theorem Zdd (o:Array Keyed) (x:Keyed):(o.push x).toList.reverse=[x]++o.toList.reverse:=by simp
def JHi (R:Keyed->Keyed->Bool) (a b:Array Keyed) (st:SortSt) (o:Array Keyed) (i j:Nat) (st':SortSt):Prop:=MH R a.toList b.toList o.toList.reverse i j/\0<i/\1<j/\∃g,st'=V4 st g
section
variable {st st':SortSt}{a b o:Array Keyed}{i j:Nat}
theorem MLo.hfA (M:MLo U R a b) (m:MH R a.toList b.toList o.toList.reverse i j) (h:i=0\/j=0) (hg:∃g,st'=V4 st g):UU R a b st (hiA a b o i j) st':=by
 obtain⟨h1,h2⟩:=m.endA M.sa M.sb h
 rw[<- Zi6] at h1 h2
 exact⟨h1,h2,hg⟩
theorem MLo.hfB (C:UE prog w A s κ U R) (M:MLo U R a b) (m:MH R a.toList b.toList o.toList.reverse i j) (h:j=1) (hg:∃g,st'=V4 st g):UU R a b st (hiB a b o i j) st':=by
 obtain⟨a0,ha0,ha0l,ha0m⟩:=Ju M.na
 obtain⟨h1,h2⟩:=m.endB M.sa M.sb fun x hx y hy=>by
  obtain⟨t,ht,hx⟩:=U1 hx
  have ht0:t=0:=by omega
  rw[ht0] at hx
  have:=C.dropLe M.ua M.sa ha0l (M.ub _ (ZsQ hx)) (M.fst _ _ hx ha0l)
  rw[Zun] at this
  exact this y (Ztt hy)
 rw[<- Zi5] at h1 h2
 exact⟨h1,h2,hg⟩
theorem MLo.ha1 (M:MLo U R a b) (m:MH R a.toList b.toList o.toList.reverse i j) {x:Keyed} (hi:0<i) (hx:a.toList[i-1]?=some x) (hle:∀y∈b.toList.take j,R x y=false):MH R a.toList b.toList (o.push x).toList.reverse (i-1) j:=by
 have:=m.pushA M.sa (c:=i-1) (by omega) (by rw[Qj hi hx];intro y hy z hz;rw[Zti.mp hz];exact hle y hy)
 rw[Qj hi hx] at this
 rw[Zdd];exact this
theorem MLo.hb1 (M:MLo U R a b) (m:MH R a.toList b.toList o.toList.reverse i j) {x:Keyed} (hj:0<j) (hx:b.toList[j-1]?=some x) (hle:∀y∈a.toList.take i,R x y=false):MH R a.toList b.toList (o.push x).toList.reverse i (j-1):=by
 have:=m.pushB M.sb (c:=j-1) (by omega) (by rw[Qj hj hx];intro y hy z hz;rw[Zti.mp hz];exact hle y hy)
 rw[Qj hj hx] at this
 rw[Zdd];exact this
end
theorem ZbZ (C:UE prog w A s κ U R) {st:SortSt}{a b:Array Keyed}{Q:Array Keyed->SortSt->Prop} (hk:kindOf st=κ) (M:MLo U R a b)
  (h:∀o st',UU R a b st o st'->Q o st'):wpS (model prog w) A E s (ZaM a b) Q st:=by
 rw[Zcv]
 have na:=M.na
 have nb:=M.nb
 obtain⟨al,hal,hall,halm⟩:=Ju (show a.size-1<a.size by omega)
 refine wpS_bind (wpS_lift (wpAny_rule ⟨rfl, ?_⟩))
 refine wpS_bind (Zn hal ?_)
 dsimp only
 have m0:MH R a.toList b.toList (#[]:Array Keyed).toList.reverse a.size b.size:=⟨by simp,List.Pairwise.nil,fun x _ y hy=>by simp at hy,fun x _ y hy=>by simp at hy,by simp,by simp⟩
 have m1:MH R a.toList b.toList (#[al]:Array Keyed).toList.reverse (a.size-1) b.size:=M.ha1 m0 na hall fun y hy=>M.lst y (Ztt hy) al hall
 have g0:∃g,st=V4 st g:=⟨gallopOf st,rfl⟩
 by_cases c1:a.size-1=0
 ·rw[if_pos (by simpa using c1)]
  exact wpS_pure (h _ _ (M.hfA m1 (.inl c1) g0))
 rw[if_neg (by simpa using c1)]
 by_cases c2:b.size=1
 ·rw[if_pos (by simpa using c2)]
  exact wpS_pure (h _ _ (MLo.hfB C M m1 c2 g0))
 rw[if_neg (by simpa using c2)]
 refine wpS_bind (wpS_get ?_)
 refine wpS_bind (wpS_mono (wpS_forRange
  (I:=fun x (c:Option (Array Keyed)×Nat×Nat×Array Keyed×Nat) (st':SortSt)=>c.1=none/\JHi R a b st c.2.2.2.1 c.2.1 c.2.2.1 st'/\c.2.1+c.2.2.1+x+1<=a.size+b.size)
  (Q:=fun(c:Option (Array Keyed)×Nat×Nat×Array Keyed×Nat) (st':SortSt)=>∃r,c.1=some r/\UU R a b st r st') ?step ?fin ⟨rfl,⟨m1,by dsimp only;omega,by dsimp only;omega,g0⟩,by dsimp only;omega⟩) ?post)
 case fin =>
  rintro⟨o1,i,j,o,g⟩ st' ⟨h1,⟨h2,h3,h4,h5⟩,h6⟩
  dsimp only at h3 h4 h6
  omega
 case post =>
  rintro⟨o1,i,j,o,g⟩ st' ⟨r,h1,h2⟩
  dsimp only at h1
  subst h1
  exact wpS_pure (h _ _ h2)
 case step =>
  rintro x ⟨o1,i,j,o,g⟩ st1 _ hx ⟨rfl,J,hm⟩
  dsimp only at J hm ⊢
  refine wpS_bind (wpS_mono (wpS_forRange
   (I:=fun x' (c:Option (Array Keyed)×Nat×Nat×Array Keyed×Nat×Nat) (st':SortSt)=>c.1=none/\JHi R a b st c.2.2.2.1 c.2.1 c.2.2.1 st'/\c.2.1+c.2.2.1+x'<=i+j)
   (Q:=fun(c:Option (Array Keyed)×Nat×Nat×Array Keyed×Nat×Nat) (st':SortSt)=>(∃r,c.1=some r/\UU R a b st r st')\/(c.1=none/\JHi R a b st c.2.2.2.1 c.2.1 c.2.2.1 st'/\c.2.1+c.2.2.1+1<=i+j)) ?step1 ?fin1 ⟨rfl,J,ZsU _⟩) ?post1)
  case fin1 =>
   rintro⟨o1,i',j',o',u,v⟩ st' ⟨h1,h2,h3⟩
   dsimp only at h1 h2 h3
   exact .inr ⟨h1,h2,by dsimp only;omega⟩
  case step1 =>
   rintro x' ⟨o1,i',j',o',u,v⟩ st' _ hx' ⟨rfl,⟨m,hi,hj,gs,rfl⟩,hp⟩
   dsimp only at m hi hj hp ⊢
   have lia:=m.hi
   have ljb:=m.hj
   rw[ZsX] at lia ljb
   obtain⟨y,hy,hyl,hym⟩:=Ju (show j'-1<b.size by omega)
   obtain⟨z,hz,hzl,hzm⟩:=Ju (show i'-1<a.size by omega)
   refine wpS_bind (Zn hy (wpS_bind (Zn hz (wpS_bind (Qy C hk (M.ub _ hym) (M.ua _ hzm) ?_)))))
   dsimp only
   cases hR:R y z with
   |true =>
    rw[if_pos rfl]
    refine wpS_bind (Zn hz ?_)
    have m2:=M.ha1 m hi hzl (C.takeLe M.ub M.sb (by omega) hyl (M.ua _ hzm) (C.asy _ _ (M.ub _ hym) (M.ua _ hzm) hR))
    by_cases e1:i'-1=0
    ·rw[if_pos (by simpa using e1)]
     exact wpS_pure (.inl ⟨_,rfl,M.hfA m2 (.inl e1) ⟨gs,rfl⟩⟩)
    ·rw[if_neg (by simpa using e1)]
     have J2:JHi R a b st (o'.push z) (i'-1) j' (V4 st gs):=⟨m2,by omega,hj,gs,rfl⟩
     split
     ·exact wpS_pure (.inr ⟨rfl,J2,by dsimp only;omega⟩)
     ·exact wpS_pure ⟨rfl,J2,by dsimp only;omega⟩
   |false =>
    rw[if_neg (by decide)]
    refine wpS_bind (Zn hy ?_)
    have m2:=M.hb1 m (by omega) hyl (C.takeLe M.ua M.sa hi hzl (M.ub _ hym) hR)
    by_cases e1:j'-1=1
    ·rw[if_pos (by simpa using e1)]
     exact wpS_pure (.inl ⟨_,rfl,MLo.hfB C M m2 e1 ⟨gs,rfl⟩⟩)
    ·rw[if_neg (by simpa using e1)]
     have J2:JHi R a b st (o'.push y) i' (j'-1) (V4 st gs):=⟨m2,hi,by omega,gs,rfl⟩
     split
     ·exact wpS_pure (.inr ⟨rfl,J2,by dsimp only;omega⟩)
     ·exact wpS_pure ⟨rfl,J2,by dsimp only;omega⟩
  case post1 =>
   rintro⟨o1,i',j',o',u,v⟩ st' (⟨r,h1,h2⟩|⟨h1,h2,h3⟩)
   ·dsimp only at h1 h2 ⊢
    subst h1
    exact wpS_pure ⟨r,rfl,h2⟩
   ·dsimp only at h1 h2 h3 ⊢
    subst h1
    refine wpS_bind (wpS_lift (wpAny_rule ⟨rfl, ?_⟩))
    refine wpS_bind (wpS_mono (wpS_forRange
     (I:=fun _ (c:Option (Array Keyed)×Nat×Nat×Array Keyed×Nat×Nat×Nat) (st':SortSt)=>c.1=none/\JHi R a b st c.2.2.2.1 c.2.1 c.2.2.1 st'/\c.2.1+c.2.2.1+(x+1)+1<=a.size+b.size)
     (Q:=fun(c:Option (Array Keyed)×Nat×Nat×Array Keyed×Nat×Nat×Nat) (st':SortSt)=>(∃r,c.1=some r/\UU R a b st r st')\/(c.1=none/\JHi R a b st c.2.2.2.1 c.2.1 c.2.2.1 st'/\c.2.1+c.2.2.1+(x+1)+1<=a.size+b.size)) ?step2 (fun c st' hc=>.inr hc) ⟨rfl,h2,by dsimp only;omega⟩) ?post2)
    case post2 =>
     rintro⟨o1,i',j',o',g',u,v⟩ st' (⟨r,h1,h2⟩|⟨h1,h2,h3⟩)
     ·dsimp only at h1 h2 ⊢
      subst h1
      exact wpS_pure ⟨r,rfl,h2⟩
     ·dsimp only at h1 h2 h3 ⊢
      subst h1
      obtain⟨m,hi,hj,gs,rfl⟩:=h2
      exact wpS_bind (VL (wpS_pure ⟨rfl,⟨m,hi,hj,_,rfl⟩,by dsimp only;omega⟩))
    case step2 =>
     clear h2 h3 J hm m0 m1
     rintro x' ⟨o1,i,j,o,g,u,v⟩ st' _ hx' ⟨rfl,⟨m,hi,hj,gs,rfl⟩,hp⟩
     dsimp only at m hi hj hp ⊢
     have lia:=m.hi
     have ljb:=m.hj
     rw[ZsX] at lia ljb
     obtain⟨y,hy,hyl,hym⟩:=Ju (show j-1<b.size by omega)
     by_cases hg1:g>1
     ·rw[if_pos hg1]
      refine wpS_bind (VL ?_)
      refine wpS_bind (Zn hy (wpS_bind (ZG C (show kindOf (V4 _ _)=κ from hk) ((ZgU C M.ua M.sa (M.ub _ hym) (Ztp a.size)).le (show i<=a.size-0 by omega)) (by omega) fun q1 p1 p2 p3=>?_)))
      dsimp only
      have fb2:∀z∈a.toList.take q1,R y z=false:=fun z hz=>by
       obtain⟨t,htk,ht⟩:=U1 hz
       have h1:=p2 t htk
       rw[ZtA,ZJ ht] at h1
       simpa using h1
      by_cases hk1:i-q1>0
      ·rw[if_pos hk1]
       have m2:=m.pushA M.sa (c:=q1) (by omega) (fun x hx z hz=>by
        obtain⟨t,htk,ht⟩:=VP hz
        have h1:=p3 t htk.1 htk.2
        rw[ZtA,ZJ ht] at h1
        have uz:=M.ua z (ZsQ ht)
        exact C.takeLe M.ub M.sb (by omega) hyl uz (C.asy _ _ (M.ub _ hym) uz (by simpa using h1)) x hx)
       rw[<- UH] at m2
       by_cases e0:q1=0
       ·rw[if_pos (by simpa using e0)]
        exact wpS_pure (.inl ⟨_,rfl,M.hfA m2 (.inl e0) ⟨_,rfl⟩⟩)
       rw[if_neg (by simpa using e0)]
       have hi2:0<q1:=by omega
       have fb:=fb2
       refine wpS_bind (Zn hy ?_)
       have m2':=M.hb1 m2 (by omega) hyl fb
       by_cases e2:j-1=1
       ·rw[if_pos (by simpa using e2)]
        exact wpS_pure (.inl ⟨_,rfl,MLo.hfB C M m2' e2 ⟨_,rfl⟩⟩)
       rw[if_neg (by simpa using e2)]
       obtain⟨z,hz,hzl,hzm⟩:=Ju (show q1-1<a.size by omega)
       refine wpS_bind (Zn hz (wpS_bind (ZG C hk ((Zbw C M.ub M.sb (M.ua _ hzm) (Ztp b.size)).le (show j-1<=b.size-0 by omega)) (by omega) fun q2 r1 r2 r3=>?_)))
       dsimp only
       have fz2:∀y∈b.toList.take q2,R z y=false:=fun y hy=>by
        obtain⟨t,htk,ht⟩:=U1 hy
        have h1:=r2 t htk
        rw[ZtA,ZJ ht] at h1
        exact C.asy _ _ (M.ub _ (ZsQ ht)) (M.ua _ hzm) h1
       by_cases hk2:j-1-q2>0
       ·rw[if_pos hk2]
        have m3:=m2'.pushB M.sb (c:=q2) (by omega) (fun x hx y hy=>by
         obtain⟨t,htk,ht⟩:=VP hy
         have h1:=r3 t htk.1 htk.2
         rw[ZtA,ZJ ht] at h1
         exact C.takeLe M.ua M.sa hi2 hzl (M.ub _ (ZsQ ht)) h1 x hx)
        rw[<- UH] at m3
        by_cases e3:q2=1
        ·rw[if_pos (by simpa using e3)]
         exact wpS_pure (.inl ⟨_,rfl,MLo.hfB C M m3 e3 ⟨_,rfl⟩⟩)
        rw[if_neg (by simpa using e3)]
        by_cases e5:q2=0
        ·rw[if_pos (by simpa using e5)]
         exact wpS_pure (.inl ⟨_,rfl,M.hfA m3 (.inr e5) ⟨_,rfl⟩⟩)
        rw[if_neg (by simpa using e5)]
        have hj3:1<q2:=by omega
        have fz:=fz2
        refine wpS_bind (Zn hz ?_)
        have m4:=M.ha1 m3 hi2 hzl fz
        by_cases e4:q1-1=0
        ·rw[if_pos (by simpa using e4)]
         exact wpS_pure (.inl ⟨_,rfl,M.hfA m4 (.inl e4) ⟨_,rfl⟩⟩)
        ·rw[if_neg (by simpa using e4)]
         split
         ·exact wpS_pure (.inr ⟨rfl,⟨m4,by dsimp only;omega,hj3,_,rfl⟩,by dsimp only;omega⟩)
         ·exact wpS_pure ⟨rfl,⟨m4,by dsimp only;omega,hj3,_,rfl⟩,by dsimp only;omega⟩
       ·rw[if_neg hk2]
        have hq2:q2=j-1:=by omega
        subst hq2
        have m3:=m2'
        have hj3:1<j-1:=by omega
        have fz:=fz2
        refine wpS_bind (Zn hz ?_)
        have m4:=M.ha1 m3 hi2 hzl fz
        by_cases e4:q1-1=0
        ·rw[if_pos (by simpa using e4)]
         exact wpS_pure (.inl ⟨_,rfl,M.hfA m4 (.inl e4) ⟨_,rfl⟩⟩)
        ·rw[if_neg (by simpa using e4)]
         split
         ·exact wpS_pure (.inr ⟨rfl,⟨m4,by dsimp only;omega,hj3,_,rfl⟩,by dsimp only;omega⟩)
         ·exact wpS_pure ⟨rfl,⟨m4,by dsimp only;omega,hj3,_,rfl⟩,by dsimp only;omega⟩
      ·rw[if_neg hk1]
       have hq1:q1=i:=by omega
       subst hq1
       have m2:=m
       have hi2:0<q1:=hi
       have fb:=fb2
       refine wpS_bind (Zn hy ?_)
       have m2':=M.hb1 m2 (by omega) hyl fb
       by_cases e2:j-1=1
       ·rw[if_pos (by simpa using e2)]
        exact wpS_pure (.inl ⟨_,rfl,MLo.hfB C M m2' e2 ⟨_,rfl⟩⟩)
       rw[if_neg (by simpa using e2)]
       obtain⟨z,hz,hzl,hzm⟩:=Ju (show q1-1<a.size by omega)
       refine wpS_bind (Zn hz (wpS_bind (ZG C hk ((Zbw C M.ub M.sb (M.ua _ hzm) (Ztp b.size)).le (show j-1<=b.size-0 by omega)) (by omega) fun q2 r1 r2 r3=>?_)))
       dsimp only
       have fz2:∀y∈b.toList.take q2,R z y=false:=fun y hy=>by
        obtain⟨t,htk,ht⟩:=U1 hy
        have h1:=r2 t htk
        rw[ZtA,ZJ ht] at h1
        exact C.asy _ _ (M.ub _ (ZsQ ht)) (M.ua _ hzm) h1
       by_cases hk2:j-1-q2>0
       ·rw[if_pos hk2]
        have m3:=m2'.pushB M.sb (c:=q2) (by omega) (fun x hx y hy=>by
         obtain⟨t,htk,ht⟩:=VP hy
         have h1:=r3 t htk.1 htk.2
         rw[ZtA,ZJ ht] at h1
         exact C.takeLe M.ua M.sa hi2 hzl (M.ub _ (ZsQ ht)) h1 x hx)
        rw[<- UH] at m3
        by_cases e3:q2=1
        ·rw[if_pos (by simpa using e3)]
         exact wpS_pure (.inl ⟨_,rfl,MLo.hfB C M m3 e3 ⟨_,rfl⟩⟩)
        rw[if_neg (by simpa using e3)]
        by_cases e5:q2=0
        ·rw[if_pos (by simpa using e5)]
         exact wpS_pure (.inl ⟨_,rfl,M.hfA m3 (.inr e5) ⟨_,rfl⟩⟩)
        rw[if_neg (by simpa using e5)]
        have hj3:1<q2:=by omega
        have fz:=fz2
        refine wpS_bind (Zn hz ?_)
        have m4:=M.ha1 m3 hi2 hzl fz
        by_cases e4:q1-1=0
        ·rw[if_pos (by simpa using e4)]
         exact wpS_pure (.inl ⟨_,rfl,M.hfA m4 (.inl e4) ⟨_,rfl⟩⟩)
        ·rw[if_neg (by simpa using e4)]
         split
         ·exact wpS_pure (.inr ⟨rfl,⟨m4,by dsimp only;omega,hj3,_,rfl⟩,by dsimp only;omega⟩)
         ·exact wpS_pure ⟨rfl,⟨m4,by dsimp only;omega,hj3,_,rfl⟩,by dsimp only;omega⟩
       ·rw[if_neg hk2]
        have hq2:q2=j-1:=by omega
        subst hq2
        have m3:=m2'
        have hj3:1<j-1:=by omega
        have fz:=fz2
        refine wpS_bind (Zn hz ?_)
        have m4:=M.ha1 m3 hi2 hzl fz
        by_cases e4:q1-1=0
        ·rw[if_pos (by simpa using e4)]
         exact wpS_pure (.inl ⟨_,rfl,M.hfA m4 (.inl e4) ⟨_,rfl⟩⟩)
        ·rw[if_neg (by simpa using e4)]
         split
         ·exact wpS_pure (.inr ⟨rfl,⟨m4,by dsimp only;omega,hj3,_,rfl⟩,by dsimp only;omega⟩)
         ·exact wpS_pure ⟨rfl,⟨m4,by dsimp only;omega,hj3,_,rfl⟩,by dsimp only;omega⟩
     ·rw[if_neg hg1]
      refine wpS_bind (VL ?_)
      refine wpS_bind (Zn hy (wpS_bind (ZG C (show kindOf (V4 _ _)=κ from hk) ((ZgU C M.ua M.sa (M.ub _ hym) (Ztp a.size)).le (show i<=a.size-0 by omega)) (by omega) fun q1 p1 p2 p3=>?_)))
      dsimp only
      have fb2:∀z∈a.toList.take q1,R y z=false:=fun z hz=>by
       obtain⟨t,htk,ht⟩:=U1 hz
       have h1:=p2 t htk
       rw[ZtA,ZJ ht] at h1
       simpa using h1
      by_cases hk1:i-q1>0
      ·rw[if_pos hk1]
       have m2:=m.pushA M.sa (c:=q1) (by omega) (fun x hx z hz=>by
        obtain⟨t,htk,ht⟩:=VP hz
        have h1:=p3 t htk.1 htk.2
        rw[ZtA,ZJ ht] at h1
        have uz:=M.ua z (ZsQ ht)
        exact C.takeLe M.ub M.sb (by omega) hyl uz (C.asy _ _ (M.ub _ hym) uz (by simpa using h1)) x hx)
       rw[<- UH] at m2
       by_cases e0:q1=0
       ·rw[if_pos (by simpa using e0)]
        exact wpS_pure (.inl ⟨_,rfl,M.hfA m2 (.inl e0) ⟨_,rfl⟩⟩)
       rw[if_neg (by simpa using e0)]
       have hi2:0<q1:=by omega
       have fb:=fb2
       refine wpS_bind (Zn hy ?_)
       have m2':=M.hb1 m2 (by omega) hyl fb
       by_cases e2:j-1=1
       ·rw[if_pos (by simpa using e2)]
        exact wpS_pure (.inl ⟨_,rfl,MLo.hfB C M m2' e2 ⟨_,rfl⟩⟩)
       rw[if_neg (by simpa using e2)]
       obtain⟨z,hz,hzl,hzm⟩:=Ju (show q1-1<a.size by omega)
       refine wpS_bind (Zn hz (wpS_bind (ZG C hk ((Zbw C M.ub M.sb (M.ua _ hzm) (Ztp b.size)).le (show j-1<=b.size-0 by omega)) (by omega) fun q2 r1 r2 r3=>?_)))
       dsimp only
       have fz2:∀y∈b.toList.take q2,R z y=false:=fun y hy=>by
        obtain⟨t,htk,ht⟩:=U1 hy
        have h1:=r2 t htk
        rw[ZtA,ZJ ht] at h1
        exact C.asy _ _ (M.ub _ (ZsQ ht)) (M.ua _ hzm) h1
       by_cases hk2:j-1-q2>0
       ·rw[if_pos hk2]
        have m3:=m2'.pushB M.sb (c:=q2) (by omega) (fun x hx y hy=>by
         obtain⟨t,htk,ht⟩:=VP hy
         have h1:=r3 t htk.1 htk.2
         rw[ZtA,ZJ ht] at h1
         exact C.takeLe M.ua M.sa hi2 hzl (M.ub _ (ZsQ ht)) h1 x hx)
        rw[<- UH] at m3
        by_cases e3:q2=1
        ·rw[if_pos (by simpa using e3)]
         exact wpS_pure (.inl ⟨_,rfl,MLo.hfB C M m3 e3 ⟨_,rfl⟩⟩)
        rw[if_neg (by simpa using e3)]
        by_cases e5:q2=0
        ·rw[if_pos (by simpa using e5)]
         exact wpS_pure (.inl ⟨_,rfl,M.hfA m3 (.inr e5) ⟨_,rfl⟩⟩)
        rw[if_neg (by simpa using e5)]
        have hj3:1<q2:=by omega
        have fz:=fz2
        refine wpS_bind (Zn hz ?_)
        have m4:=M.ha1 m3 hi2 hzl fz
        by_cases e4:q1-1=0
        ·rw[if_pos (by simpa using e4)]
         exact wpS_pure (.inl ⟨_,rfl,M.hfA m4 (.inl e4) ⟨_,rfl⟩⟩)
        ·rw[if_neg (by simpa using e4)]
         split
         ·exact wpS_pure (.inr ⟨rfl,⟨m4,by dsimp only;omega,hj3,_,rfl⟩,by dsimp only;omega⟩)
         ·exact wpS_pure ⟨rfl,⟨m4,by dsimp only;omega,hj3,_,rfl⟩,by dsimp only;omega⟩
       ·rw[if_neg hk2]
        have hq2:q2=j-1:=by omega
        subst hq2
        have m3:=m2'
        have hj3:1<j-1:=by omega
        have fz:=fz2
        refine wpS_bind (Zn hz ?_)
        have m4:=M.ha1 m3 hi2 hzl fz
        by_cases e4:q1-1=0
        ·rw[if_pos (by simpa using e4)]
         exact wpS_pure (.inl ⟨_,rfl,M.hfA m4 (.inl e4) ⟨_,rfl⟩⟩)
        ·rw[if_neg (by simpa using e4)]
         split
         ·exact wpS_pure (.inr ⟨rfl,⟨m4,by dsimp only;omega,hj3,_,rfl⟩,by dsimp only;omega⟩)
         ·exact wpS_pure ⟨rfl,⟨m4,by dsimp only;omega,hj3,_,rfl⟩,by dsimp only;omega⟩
      ·rw[if_neg hk1]
       have hq1:q1=i:=by omega
       subst hq1
       have m2:=m
       have hi2:0<q1:=hi
       have fb:=fb2
       refine wpS_bind (Zn hy ?_)
       have m2':=M.hb1 m2 (by omega) hyl fb
       by_cases e2:j-1=1
       ·rw[if_pos (by simpa using e2)]
        exact wpS_pure (.inl ⟨_,rfl,MLo.hfB C M m2' e2 ⟨_,rfl⟩⟩)
       rw[if_neg (by simpa using e2)]
       obtain⟨z,hz,hzl,hzm⟩:=Ju (show q1-1<a.size by omega)
       refine wpS_bind (Zn hz (wpS_bind (ZG C hk ((Zbw C M.ub M.sb (M.ua _ hzm) (Ztp b.size)).le (show j-1<=b.size-0 by omega)) (by omega) fun q2 r1 r2 r3=>?_)))
       dsimp only
       have fz2:∀y∈b.toList.take q2,R z y=false:=fun y hy=>by
        obtain⟨t,htk,ht⟩:=U1 hy
        have h1:=r2 t htk
        rw[ZtA,ZJ ht] at h1
        exact C.asy _ _ (M.ub _ (ZsQ ht)) (M.ua _ hzm) h1
       by_cases hk2:j-1-q2>0
       ·rw[if_pos hk2]
        have m3:=m2'.pushB M.sb (c:=q2) (by omega) (fun x hx y hy=>by
         obtain⟨t,htk,ht⟩:=VP hy
         have h1:=r3 t htk.1 htk.2
         rw[ZtA,ZJ ht] at h1
         exact C.takeLe M.ua M.sa hi2 hzl (M.ub _ (ZsQ ht)) h1 x hx)
        rw[<- UH] at m3
        by_cases e3:q2=1
        ·rw[if_pos (by simpa using e3)]
         exact wpS_pure (.inl ⟨_,rfl,MLo.hfB C M m3 e3 ⟨_,rfl⟩⟩)
        rw[if_neg (by simpa using e3)]
        by_cases e5:q2=0
        ·rw[if_pos (by simpa using e5)]
         exact wpS_pure (.inl ⟨_,rfl,M.hfA m3 (.inr e5) ⟨_,rfl⟩⟩)
        rw[if_neg (by simpa using e5)]
        have hj3:1<q2:=by omega
        have fz:=fz2
        refine wpS_bind (Zn hz ?_)
        have m4:=M.ha1 m3 hi2 hzl fz
        by_cases e4:q1-1=0
        ·rw[if_pos (by simpa using e4)]
         exact wpS_pure (.inl ⟨_,rfl,M.hfA m4 (.inl e4) ⟨_,rfl⟩⟩)
        ·rw[if_neg (by simpa using e4)]
         split
         ·exact wpS_pure (.inr ⟨rfl,⟨m4,by dsimp only;omega,hj3,_,rfl⟩,by dsimp only;omega⟩)
         ·exact wpS_pure ⟨rfl,⟨m4,by dsimp only;omega,hj3,_,rfl⟩,by dsimp only;omega⟩
       ·rw[if_neg hk2]
        have hq2:q2=j-1:=by omega
        subst hq2
        have m3:=m2'
        have hj3:1<j-1:=by omega
        have fz:=fz2
        refine wpS_bind (Zn hz ?_)
        have m4:=M.ha1 m3 hi2 hzl fz
        by_cases e4:q1-1=0
        ·rw[if_pos (by simpa using e4)]
         exact wpS_pure (.inl ⟨_,rfl,M.hfA m4 (.inl e4) ⟨_,rfl⟩⟩)
        ·rw[if_neg (by simpa using e4)]
         split
         ·exact wpS_pure (.inr ⟨rfl,⟨m4,by dsimp only;omega,hj3,_,rfl⟩,by dsimp only;omega⟩)
         ·exact wpS_pure ⟨rfl,⟨m4,by dsimp only;omega,hj3,_,rfl⟩,by dsimp only;omega⟩
end
theorem Zcw (i:Nat):mergeAt' i=(do
  let s <- get
  let (some (c,n,p),some (d,m,_)):=((pendingOf s)[i]?,(pendingOf s)[i+1]?)|unsupported "internal:list.sort.pending"
  set (setPending s (((pendingOf s).setIfInBounds i (c,n+m,p)).eraseIdxIfInBounds (i+1)))
  let some k <- VG false (<- elem' (arrOf s) d) (arrOf s) c n 0|return false
  let (c,n):=(c+k,n-k)
  if n==0 then return true
  let some m <- VG true (<- elem' (arrOf s) (c+n-1)) (arrOf s) d m (m-1)|return false
  if m==0 then return true
  let x:=(arrOf s).extract c d
  let y:=(arrOf s).extract d (d+m)
  let r <- if n<=m then ZaL x y else ZaM x y
  modify fun s=>setArr s (r.toList.zipIdx.foldl (fun a (p,j)=>a.setIfInBounds (c+j) p) (arrOf s))
  return (failedOf (<- get)).isNone):=rfl
section
variable {prog:Program}{w:World}{A:Around}{E:Value->Shared->Prop}{s:Shared}{κ:SortKind}{U:Keyed->Prop}{R:Keyed->Keyed->Bool}
theorem ZcX:∀(r:List Keyed) (c:Nat) (X:Array Keyed) (n:Nat),c+n+r.length<=X.size->((r.zipIdx n).foldl (fun a (p:Keyed×Nat)=>a.setIfInBounds (c+p.2) p.1) X).toList=X.toList.take (c+n)++r++X.toList.drop (c+n+r.length)
 |[],c,X,n,h=>by simp
 |x::r,c,X,n,h=>by
  simp only[Ztl] at h
  rw[List.zipIdx_cons,Zua]
  have ih:=ZcX r c (X.setIfInBounds (c+n) x) (n+1) (by rw[Array.size_setIfInBounds];omega)
  rw[ih,ZuN]
  have hl:c+n<X.toList.length:=by rw[ZsX];omega
  rw[show c+(n+1)=c+n+1 by omega]
  have e1:(X.toList.set (c+n) x).take (c+n+1)=X.toList.take (c+n)++[x]:=by
   rw[List.take_set,List.take_succ_eq_append_getElem hl,List.set_append_right _ _ (by rw[Ztk];omega)]
   rw[show c+n-(X.toList.take (c+n)).length=0 by rw[Ztk,ZsX];omega]
   rfl
  have e2:(X.toList.set (c+n) x).drop (c+n+1+r.length)=X.toList.drop (c+n+1+r.length):=List.drop_set_of_lt (by omega)
  rw[e1,e2]
  simp only[Ztl,Zta,Zui,Zue,ZtT]
  rw[show c+n+(r.length+1)=c+n+1+r.length by omega]
theorem Zfj (C:UE prog w A s κ U R) (left:Bool) {X:Array Keyed}{key:Keyed}{c n:Nat}{P:List Keyed} (hP:∀t,t<n->X[c+t]?=P[t]?) (hn:P.length=n) (ul:∀y∈P,U y) (hs:Srt R P) (uk:U key) :
  Qd U R left key X c n (fun t=>if left=true then R (P.getD t (.none,.none)) key else !R key (P.getD t (.none,.none))):=by
 have get:∀t,t<n->P[t]?=some (P.getD t (.none,.none)):=fun t ht=>by
  rw[ZsO,ZsP (by omega)];rfl
 refine⟨uk,fun t ht=>⟨_,by rw[hP t ht,get t ht],ul _ (ZsQ (get t ht)),rfl⟩,fun t u htu hu h=>?_⟩
 have hu':=get u hu
 have ht':=get t (by omega)
 have h2:=Srt.le C ul hs htu ht' hu'
 have u1:=ul _ (ZsQ ht')
 have u2:=ul _ (ZsQ hu')
 cases left with
 |false =>
  have h:(!R key (P.getD u (.none,.none)))=true:=h
  show (!R key (P.getD t (.none,.none)))=true
  rw[C.tr _ _ key u1 u2 uk h2 (by simpa using h)];rfl
 |true =>
  have h:R (P.getD u (.none,.none)) key=true:=h
  show R (P.getD t (.none,.none)) key=true
  cases hc:R (P.getD t (.none,.none)) key with
  |true=>rfl
  |false=>rw[C.tr key _ _ uk u1 u2 hc h2] at h;cases h
theorem Zi0 {σ:Type}{M:Model}{v:σ}{Q:PUnit->σ->Prop}{st:σ} (h:Q ⟨⟩ v):wpS M A E s (set v:StateT σ Sem PUnit) Q st:=by
 unfold wpS;rw[StateT.run_set];exact wpAny_pure ⟨rfl,h⟩
theorem Zca (C:UE prog w A s κ U R) {st:SortSt}{i c n p d m p2:Nat}{pre P Y post:List Keyed}{Q:Bool->SortSt->Prop} (hk:kindOf st=κ) (hf:failedOf st=none)
  (h1:(pendingOf st)[i]?=some (c,n,p)) (h2:(pendingOf st)[i+1]?=some (d,m,p2)) (hX:(arrOf st).toList=pre++(P++(Y++post))) (lp:pre.length=c) (lP:P.length=n) (lY:Y.length=m) (hd:d=c+n) (n0:0<n) (m0:0<m)
  (uP:∀x∈P,U x) (uY:∀x∈Y,U x) (sP:Srt R P) (sY:Srt R Y)
  (h:∀st' W,kindOf st'=κ->failedOf st'=none->pendingOf st'=((pendingOf st).setIfInBounds i (c,n+m,p)).eraseIdxIfInBounds (i+1)->(arrOf st').toList=pre++(W++post)->Srt R W->W.Perm (P++Y)->Q true st') :
  wpS (model prog w) A E s (mergeAt' i) Q st:=by
 rw[Zcw]
 refine wpS_bind (wpS_get ?_)
 rw[h1,h2]
 dsimp only
 have size0:(arrOf st).size=c+(n+(m+post.length)):=by
  have:=congrArg List.length hX
  rw[ZsX] at this
  rw[this];simp[lp,lP,lY]
 have gP:∀t,t<n->(arrOf st)[c+t]?=P[t]?:=fun t ht=>by
  rw[<- Ztz,hX,ZsY (by omega),lp,show c+t-c=t by omega,Ztb (by omega)]
 have gY:∀t,t<m->(arrOf st)[d+t]?=Y[t]?:=fun t ht=>by
  rw[<- Ztz,hX,ZsY (by omega),lp,ZsY (by omega),lP,show d+t-c-n=t by omega,Ztb (by omega)]
 refine wpS_bind (Zi0 ?_)
 have y0l:Y[0]?=some (Y.getD 0 (.none,.none)):=by rw[ZsO,ZsP (by omega)];rfl
 generalize Y.getD 0 (.none,.none)=y0 at y0l
 have uy0:=uY y0 (ZsQ y0l)
 refine wpS_bind (Zn (x:=y0) (by have:=gY 0 m0;rw[Nat.add_zero] at this;rw[this,y0l]) (wpS_bind (ZG C (show kindOf (setPending st _)=κ from hk) (Zfj C false gP lP uP sP uy0) n0 fun k p1 p2 p3=>?_)))
 dsimp only at p2 p3 ⊢
 have gd:∀{l:List Keyed}{t:Nat}{x:Keyed},l[t]?=some x->l.getD t (.none,.none)=x:=fun {l t x} h=>by rw[ZsO,h];rfl
 have pk:∀x∈P.take k,R y0 x=false:=fun x hx=>by
  obtain⟨t,ht,hx⟩:=U1 hx
  have:=p2 t ht
  rw[gd hx] at this
  simpa using this
 have pk2:∀t x,k<=t->P[t]?=some x->R y0 x=true:=fun t x ht hx=>by
  have hl:=(ZsR.mp hx).1
  have:=p3 t ht (by omega)
  rw[gd hx] at this
  simpa using this
 by_cases e1:n-k=0
 ·rw[if_pos (by simpa using e1)]
  refine wpS_pure (h _ (P++Y) hk hf rfl (by rw[hX,Zta]) (Zte.mpr ⟨sP,sY,fun x hx y hy=>?_⟩) (List.Perm.refl _))
  have:=C.dropLe uY sY y0l (uP x hx) (pk x (by rw[Ztw (by omega)];exact hx))
  rw[Zun] at this
  exact this y hy
 rw[if_neg (by simpa using e1)]
 have ll:P[n-1]?=some (P.getD (n-1) (.none,.none)):=by rw[ZsO,ZsP (by omega)];rfl
 generalize P.getD (n-1) (.none,.none)=l at ll
 have ul:=uP l (ZsQ ll)
 refine wpS_bind (Zn (x:=l) (by have:=gP (n-1) (by omega);rw[show c+k+(n-k)-1=c+(n-1) by omega,this,ll]) (wpS_bind (ZG C (show kindOf (setPending st _)=κ from hk) (Zfj C true gY lY uY sY ul) (by omega) fun k2 r1 r2 r3=>?_)))
 dsimp only at r2 r3 ⊢
 have yk:∀x∈Y.take k2,R x l=true:=fun x hx=>by
  obtain⟨t,ht,hx⟩:=U1 hx
  have:=r2 t ht
  rw[gd hx] at this
  simpa using this
 have yk2:∀x∈Y.drop k2,R x l=false:=fun x hx=>by
  obtain⟨t,hx⟩:=J7 hx
  have hl:=(ZsR.mp hx).1
  have:=r3 (k2+t) (by omega) (by omega)
  rw[gd hx] at this
  simpa using this
 have pl:∀v,U v->R v l=false->∀x∈P,R v x=false:=fun v uv hv x hx=>C.takeLe uP sP n0 ll uv hv x (by rw[Ztw (by omega)];exact hx)
 by_cases e2:k2=0
 ·rw[if_pos (by simpa using e2)]
  subst e2
  rw[Zun] at yk2
  exact wpS_pure (h _ (P++Y) hk hf rfl (by rw[hX,Zta]) (Zte.mpr ⟨sP,sY,fun x hx y hy=>pl y (uY y hy) (yk2 y hy) x hx⟩) (List.Perm.refl _))
 rw[if_neg (by simpa using e2)]
 have ex:((arrOf st).extract (c+k) d).toList=P.drop k:=by
  refine Zuy fun t=>?_
  rw[ZtZ,Zt4,Zt8,ZtB,ZtB,Ztz]
  by_cases ht:t<d-(c+k)
  ·rw[if_pos ht,show c+k+t=c+(k+t) by omega,gP (k+t) (by omega)]
  ·rw[if_neg ht,Zt2 (by omega)]
 have ey:((arrOf st).extract d (d+k2)).toList=Y.take k2:=by
  refine Zuy fun t=>?_
  rw[ZtZ,Zt4,Zt8,ZtB,Zt8,Ztz]
  by_cases ht:t<k2
  ·rw[if_pos (by omega),if_pos ht,gY t (by omega)]
  ·rw[if_neg (by omega),if_neg ht]
 have sx:((arrOf st).extract (c+k) d).size=n-k:=by
  have:=congrArg List.length ex
  rw[ZsX,ZtL] at this
  omega
 have sy:((arrOf st).extract d (d+k2)).size=k2:=by
  have:=congrArg List.length ey
  rw[ZsX,Ztk] at this
  omega
 have MM:MLo U R ((arrOf st).extract (c+k) d) ((arrOf st).extract d (d+k2)):=by
  refine⟨?_, ?_, ?_, ?_,by omega,by omega,fun x y hx hy=>?_,fun x hx y hy=>?_⟩
  ·rw[ex];exact fun x hx=>uP x (Zty hx)
  ·rw[ey];exact fun x hx=>uY x (Ztt hx)
  ·rw[ex];exact sP.drop k
  ·rw[ey];exact sY.take k2
  ·rw[ey,Zt8,if_pos (by omega),y0l] at hx
   cases hx
   rw[ex,ZtB,Nat.add_zero] at hy
   exact C.asy _ _ uy0 (uP y (ZsQ hy)) (pk2 k y (ZsU _) hy)
  ·rw[ey] at hx
   rw[ex,ZtB,sx,show k+(n-k-1)=n-1 by omega,ll] at hy
   cases hy
   exact C.asy _ _ (uY x (Ztt hx)) ul (yk x hx)
 have fin:∀r st2,UU R ((arrOf st).extract (c+k) d) ((arrOf st).extract d (d+k2)) (setPending st (((pendingOf st).setIfInBounds i (c,n+m,p)).eraseIdxIfInBounds (i+1))) r st2 ->
   wpS (model prog w) A E s (do
    modify fun s=>setArr s (r.toList.zipIdx.foldl (fun a (p,j)=>a.setIfInBounds (c+k+j) p) (arrOf s))
    return (failedOf (<- get)).isNone) Q st2:=by
  rintro r st2 ⟨q1,q2,g,rfl⟩
  rw[ex,ey] at q2
  have lr:r.toList.length=n-k+k2:=by
   rw[q2.length_eq,Zt7,ZtL,Ztk];omega
  refine wpS_bind (wpS_modify (wpS_bind (wpS_get (wpS_pure ?_))))
  show Q ((failedOf st).isNone) _
  rw[hf]
  have hw:=ZcX r.toList (c+k) (arrOf st) 0 (by omega)
  have memr:∀x∈r.toList,(x∈P.drop k\/x∈Y.take k2):=fun x hx=>ZsS.mp (q2.mem_iff.mp hx)
  refine h _ (P.take k++(r.toList++Y.drop k2)) hk hf rfl ?_ ?_ ?_
  ·show (r.toList.zipIdx.foldl (fun a (p:Keyed×Nat)=>a.setIfInBounds (c+k+p.2) p.1) (arrOf st)).toList=_
   rw[hw,Nat.add_zero,hX,lr]
   have d1:(pre++(P++(Y++post))).take (c+k)=pre++P.take k:=by
    rw[List.take_append,Ztw (by omega),lp,show c+k-c=k by omega,Zuf (by omega)]
   have d2:(pre++(P++(Y++post))).drop (c+k+(n-k+k2))=Y.drop k2++post:=by
    rw[List.drop_append,ZtN (by omega),ZtT,lp,List.drop_append,ZtN (by omega),ZtT,lP,List.drop_append_of_le_length (by omega)]
    congr 2
    omega
   rw[d1,d2]
   simp only[Zta]
  ·refine Zte.mpr ⟨sP.take k,Zte.mpr ⟨q1,sY.drop k2,fun x hx y hy=>?_⟩,fun x hx y hy=>?_⟩
   ·rcases memr x hx with z|z
    ·exact pl y (uY y (Zty hy)) (yk2 y hy) x (Zty z)
    ·have sd:=sY
     rw[<- Ztq k2 Y] at sd
     exact(Zte.mp sd).2.2 x z y hy
   ·have ux:=uP x (Ztt hx)
    have hyY:∀y∈Y,R y x=false:=fun y hy=>by
     have:=C.dropLe uY sY y0l ux (pk x hx)
     rw[Zun] at this
     exact this y hy
    rcases ZsS.mp hy with z|z
    ·rcases memr y z with z|z
     ·have sd:=sP
      rw[<- Ztq k P] at sd
      exact(Zte.mp sd).2.2 x hx y z
     ·exact hyY y (Ztt z)
    ·exact hyY y (Zty z)
  ·have p1:(P.take k++(r.toList++Y.drop k2)).Perm (P.take k++((P.drop k++Y.take k2)++Y.drop k2)):=List.Perm.append_left _ (q2.append_right _)
   refine p1.trans ?_
   rw[Zta,Ztq,<- Zta,Ztq]
 by_cases e3:n-k<=k2
 ·rw[if_pos e3]
  exact wpS_bind (ZbY C (show kindOf (setPending st _)=κ from hk) MM fin)
 ·rw[if_neg e3]
  exact wpS_bind (ZbZ C (show kindOf (setPending st _)=κ from hk) MM fin)
end
noncomputable def gA (X:Array Keyed) (i:Nat):Keyed:=X.getD i (.none,.none)
theorem Zat {X:Array Keyed}{i:Nat} (h:i<X.size):X[i]?=some (gA X i):=by simp[gA,Array.getD,h]
theorem Zju {X:Array Keyed}{i:Nat}{x:Keyed} (h:X[i]?=some x):gA X i=x:=by
 have hi:i<X.size:=by
  rcases Nat.lt_or_ge i X.size with z|z
  ·exact z
  ·rw[Array.getElem?_eq_none z] at h;cases h
 rw[Zat hi] at h;exact Option.some.inj h
theorem Vv {X Y:Array Keyed}{i j:Nat} (h:X[i]?=Y[j]?):gA X i=gA Y j:=by
 simp only[gA,Array.getD_eq_getD_getElem?,h]
def Up (R:Keyed->Keyed->Bool) (X:Array Keyed) (lo m:Nat):Prop:=∀i j,i<j->j<m->R (gA X (lo+j)) (gA X (lo+i))=false
def Dn' (R:Keyed->Keyed->Bool) (X:Array Keyed) (lo m:Nat):Prop:=∀i j,i<j->j<m->R (gA X (lo+i)) (gA X (lo+j))=false
structure Vc (X Y:Array Keyed) (lo m:Nat):Prop where
 perm:Y.Perm X
 out:∀k,k<lo\/lo+m<=k->Y[k]?=X[k]?
theorem Vc.refl (X:Array Keyed) (lo m:Nat):Vc X X lo m:=⟨Array.Perm.refl _,fun _ _=>rfl⟩
theorem Vc.size {X Y:Array Keyed}{lo m:Nat} (h:Vc X Y lo m):Y.size=X.size:=h.perm.size_eq
theorem Vc.trans {X Y Z:Array Keyed}{lo m:Nat} (h:Vc X Y lo m) (g:Vc Y Z lo m):Vc X Z lo m:=⟨g.perm.trans h.perm,fun k hk=>(g.out k hk).trans (h.out k hk)⟩
theorem Vc.wide {X Y:Array Keyed}{lo lo' m m':Nat} (h:Vc X Y lo' m') (h1:lo<=lo') (h2:lo'+m'<=lo+m):Vc X Y lo m:=⟨h.perm,fun k hk=>h.out k (by omega)⟩
section
variable {prog:Program}{w:World}{A:Around}{E:Value->Shared->Prop}{s:Shared}{κ:SortKind}{U:Keyed->Prop}{R:Keyed->Keyed->Bool}
def ZcW (U:Keyed->Prop) (X:Array Keyed):Prop:=∀i,i<X.size->U (gA X i)
theorem ZcW.stir {X Y:Array Keyed}{lo m:Nat} (h:ZcW U X) (t:Vc X Y lo m):ZcW U Y:=fun i hi=>by
 have hm:gA Y i∈Y:=by
  have:=Zat hi
  exact Array.mem_of_getElem? this
 obtain⟨j,hj⟩:=Array.getElem?_of_mem ((Array.Perm.mem_iff t.perm).mp hm)
 have hjs:j<X.size:=by
  rcases Nat.lt_or_ge j X.size with z|z
  ·exact z
  ·rw[Array.getElem?_eq_none z] at hj;cases hj
 rw[<- Zju hj]
 exact h j hjs
theorem JN (C:UE prog w A s κ U R) {st:SortSt}{i j:Nat}{Q:Option Bool->SortSt->Prop} (hk:kindOf st=κ) (hU:ZcW U (arrOf st)) (hi:i<(arrOf st).size) (hj:j<(arrOf st).size) (h:Q (some (R (gA (arrOf st) i) (gA (arrOf st) j))) st) :
  wpS (model prog w) A E s (ltAt' i j) Q st:=by
 rw[ltAt'_eq]
 refine wpS_bind (wpS_get ?_)
 exact wpS_bind (Zn (Zat hi) (wpS_bind (Zn (Zat hj) (Qy C hk (hU i hi) (hU j hj) h))))
theorem Up.more (C:UE prog w A s κ U R) {X:Array Keyed}{lo n:Nat} (hU:ZcW U X) (hs:lo+n<X.size) (h:Up R X lo n) (hl:n=0\/R (gA X (lo+n)) (gA X (lo+n-1))=false):Up R X lo (n+1):=fun i j hij hj=>by
 by_cases e:j<n
 ·exact h i j hij e
 ·obtain rfl:j=n:=by omega
  rcases hl with hl|hl
  ·omega
  ·by_cases e2:i=j-1
   ·subst e2;rw[show lo+(j-1)=lo+j-1 by omega];exact hl
   ·have h2:=h i (j-1) (by omega) (by omega)
    rw[show lo+(j-1)=lo+j-1 by omega] at h2
    exact C.tr _ _ _ (hU _ (by omega)) (hU _ (by omega)) (hU _ (by omega)) h2 hl
theorem Zi1 (C:UE prog w A s κ U R) {st:SortSt}{lo n ok:Nat}{Q:Bool->SortSt->Prop} (hk:kindOf st=κ) (hU:ZcW U (arrOf st)) (hn:lo+n<=(arrOf st).size) (hok:ok<=n) (n1:1<=n) (hs:Up R (arrOf st) lo ok)
  (h:∀Y,Vc (arrOf st) Y lo n->Up R Y lo n->Q true (setArr st Y)):wpS (model prog w) A E s (binarySort' lo n ok) Q st:=by
 rw[binarySort'_eq]
 refine wpS_bind (wpS_mono (wpS_forRange
  (I:=fun k (c:Option Bool×Unit) (st':SortSt)=>c.1=none/\∃Y,st'=setArr st Y/\Vc (arrOf st) Y lo n/\Up R Y lo k)
  (Q:=fun(c:Option Bool×Unit) (st':SortSt)=>c.1=none/\∃Y,st'=setArr st Y/\Vc (arrOf st) Y lo n/\Up R Y lo n) ?step ?fin ?ini) ?post)
 case ini =>
  refine⟨rfl,arrOf st,rfl,Vc.refl _ _ _,fun i j hij hj=>?_⟩
  by_cases e:1<=ok
  ·exact hs i j hij (by omega)
  ·omega
 case fin =>
  rintro⟨o,u⟩ st' ⟨h1,Y,h2,h3,h4⟩
  exact⟨h1,Y,h2,h3,fun i j hij hj=>h4 i j hij (by omega)⟩
 case post =>
  rintro⟨o,u⟩ st' ⟨h1,Y,rfl,h3,h4⟩
  dsimp only at h1
  subst h1
  exact wpS_pure (h Y h3 h4)
 case step =>
  rintro k ⟨o,u⟩ st' hk1 hk2 ⟨h1,Y,rfl,h3,h4⟩
  dsimp only at h1
  subst h1
  have hYU:=hU.stir h3
  have hYs:=h3.size
  refine wpS_bind (wpS_mono (wpS_forRange
   (I:=fun x (c:Option Bool×Nat×Nat) (st':SortSt)=>c.1=none/\st'=setArr st Y/\c.2.1<=c.2.2/\c.2.2<=k/\(∀i,i<c.2.1->R (gA Y (lo+k)) (gA Y (lo+i))=false)/\(∀i,c.2.2<=i->i<k->R (gA Y (lo+k)) (gA Y (lo+i))=true)/\c.2.2-c.2.1<=k-x)
   (Q:=fun(c:Option Bool×Nat×Nat) (st':SortSt)=>c.1=none/\st'=setArr st Y/\c.2.1=c.2.2/\c.2.2<=k/\(∀i,i<c.2.1->R (gA Y (lo+k)) (gA Y (lo+i))=false)/\(∀i,c.2.2<=i->i<k->R (gA Y (lo+k)) (gA Y (lo+i))=true)) ?step1 ?fin1
   ⟨rfl,rfl,Ztp _,ZsU _,fun i hi=>absurd hi (Nat.not_lt_zero _),fun i h1 h2=>absurd h1 (by dsimp only;omega),by dsimp only;omega⟩) ?post1)
  case fin1 =>
   rintro⟨o,l,r⟩ st' ⟨rfl,q0,q1,q2,q3,q4,q5⟩
   dsimp only at q1 q2 q3 q4 q5 ⊢
   exact⟨rfl,q0,by omega,q2,q3,q4⟩
  case step1 =>
   rintro x ⟨o,l,r⟩ st' _ hx ⟨rfl,rfl,q1,q2,q3,q4,q5⟩
   dsimp only at q1 q2 q3 q4 q5 ⊢
   by_cases hlr:l ≥ r
   ·rw[if_pos hlr]
    exact wpS_pure ⟨rfl,rfl,by dsimp only;omega,q2,q3,q4⟩
   ·rw[if_neg hlr]
    refine wpS_bind (JN C (show kindOf (setArr st Y)=κ from hk) hYU (show lo+k<Y.size by omega) (show lo+(l+r)/2<Y.size by omega) ?_)
    dsimp only
    show wpS _ _ _ _ (if R (gA Y (lo+k)) (gA Y (lo+(l+r)/2))=true then _ else _) _ _
    cases hm:R (gA Y (lo+k)) (gA Y (lo+(l+r)/2)) with
    |true =>
     rw[if_pos rfl]
     refine wpS_pure ⟨rfl,rfl,by dsimp only;omega,by dsimp only;omega,q3,fun i i1 i2=>?_,by dsimp only;omega⟩
     dsimp only at i1
     by_cases e:i=(l+r)/2
     ·subst e;exact hm
     ·cases hc:R (gA Y (lo+k)) (gA Y (lo+i)) with
      |true=>rfl
      |false =>
       have:=h4 ((l+r)/2) i (by omega) i2
       rw[C.tr _ _ _ (hYU _ (by omega)) (hYU _ (by omega)) (hYU _ (by omega)) this hc] at hm
       cases hm
    |false =>
     rw[if_neg (by decide)]
     refine wpS_pure ⟨rfl,rfl,by dsimp only;omega,q2,fun i i1=>?_,q4,by dsimp only;omega⟩
     dsimp only at i1
     by_cases e:i=(l+r)/2
     ·subst e;exact hm
     ·have:=h4 i ((l+r)/2) (by omega) (by omega)
      exact C.tr _ _ _ (hYU _ (by omega)) (hYU _ (by omega)) (hYU _ (by omega)) this hm
  case post1 =>
   rintro⟨o,l,r⟩ st' ⟨rfl,rfl,q1,q2,q3,q4⟩
   dsimp only at q1 q2 q3 q4 ⊢
   subst q1
   rw[moveDown'_eq]
   refine wpS_bind (wpS_modify (wpS_pure ⟨rfl,bubble Y (lo+k) (lo+k-(lo+l)),rfl, ?_, ?_⟩))
   ·refine h3.trans ⟨bubble_perm _ _ _,fun t ht=>?_⟩
    rw[getElem?_bubble (show lo+k<Y.size by omega) _ (by omega),if_neg (by omega),if_neg (by omega)]
   ·have bg:∀t,t<=k->gA (bubble Y (lo+k) (lo+k-(lo+l))) (lo+t)=if t=l then gA Y (lo+k) else if l<t then gA Y (lo+t-1) else gA Y (lo+t):=fun t ht=>by
     have e:=getElem?_bubble (show lo+k<Y.size by omega) (lo+k-(lo+l)) (by omega) (lo+t)
     by_cases e1:t=l
     ·rw[if_pos e1];rw[if_pos (by omega)] at e;exact Vv e
     ·rw[if_neg e1];rw[if_neg (by omega)] at e
      by_cases e2:l<t
      ·rw[if_pos e2];rw[if_pos (by omega)] at e;exact Vv e
      ·rw[if_neg e2];rw[if_neg (by omega)] at e;exact Vv e
    intro i j hij hj
    rw[bg i (by omega),bg j (by omega)]
    by_cases a1:j=l
    ·rw[if_pos a1,if_neg (by omega),if_neg (by omega)]
     exact q3 i (by omega)
    ·rw[if_neg a1]
     by_cases a2:l<j
     ·rw[if_pos a2]
      by_cases b1:i=l
      ·rw[if_pos b1,show lo+j-1=lo+(j-1) by omega]
       exact C.asy _ _ (hYU _ (by omega)) (hYU _ (by omega)) (q4 (j-1) (by omega) (by omega))
      ·rw[if_neg b1]
       by_cases b2:l<i
       ·rw[if_pos b2,show lo+j-1=lo+(j-1) by omega,show lo+i-1=lo+(i-1) by omega]
        exact h4 (i-1) (j-1) (by omega) (by omega)
       ·rw[if_neg b2,show lo+j-1=lo+(j-1) by omega]
        exact h4 i (j-1) (by omega) (by omega)
     ·rw[if_neg a2,if_neg (by omega),if_neg (by omega)]
      exact h4 i j hij (by omega)
theorem nsA {lo k e:Nat} (h:e<k):lo+k-(e+1)+(lo+k)-1-(lo+k-1)=lo+(k-1-e):=by omega
theorem nsB {lo n:Nat} (h:1<=n):lo+(n-1)=lo+n-1:=by omega
theorem nsC {lo k e:Nat} (h:e<k):lo+(k-1-e)=lo+k-(e+1):=by omega
theorem nsD {lo n j:Nat} (h:j<n):lo+(lo+n)-1-(lo+j)=lo+(n-1-j):=by omega
noncomputable abbrev mir (X:Array Keyed) (i j:Nat):Array Keyed:=mirror X i j ((j-i)/2)
theorem Vo {st:SortSt}{i j:Nat}{Q:Unit->SortSt->Prop} (h:Q () (setArr st (mir (arrOf st) i j))):wpS (model prog w) A E s (reverseSlice' i j) Q st:=by
 rw[reverseSlice'_eq];exact wpS_modify h
theorem ZY {X:Array Keyed}{i j:Nat} (hij:i<=j) (hj:j<=X.size):Vc X (mir X i j) i (j-i):=
 ⟨mirror_perm _ _ _ _,fun k hk=>by rw[getElem?_mirror_all hj,if_neg (by omega)]⟩
theorem Ub {X:Array Keyed}{i j k:Nat} (hj:j<=X.size) (h1:i<=k) (h2:k<j):gA (mir X i j) k=gA X (i+j-1-k):=by
 refine Vv ?_
 rw[getElem?_mirror_all hj,if_pos ⟨h1,h2⟩]
theorem QJ {X:Array Keyed}{i j k:Nat} (hj:j<=X.size) (h:k<i\/j<=k):gA (mir X i j) k=gA X k:=by
 refine Vv ?_
 rw[getElem?_mirror_all hj,if_neg (by omega)]
def Eqv (R:Keyed->Keyed->Bool) (X:Array Keyed) (lo a b:Nat):Prop:=∀i j,a<=i->i<b->a<=j->j<b->R (gA X (lo+i)) (gA X (lo+j))=false
theorem Dn'.more (C:UE prog w A s κ U R) {X:Array Keyed}{lo n:Nat} (hU:ZcW U X) (hs:lo+n<X.size) (h:Dn' R X lo n) (hl:n=0\/R (gA X (lo+n-1)) (gA X (lo+n))=false):Dn' R X lo (n+1):=fun i j hij hj=>by
 by_cases e:j<n
 ·exact h i j hij e
 ·obtain rfl:j=n:=by omega
  rcases hl with hl|hl
  ·omega
  ·by_cases e2:i=j-1
   ·subst e2;rw[show lo+(j-1)=lo+j-1 by omega];exact hl
   ·have h2:=h i (j-1) (by omega) (by omega)
    rw[show lo+(j-1)=lo+j-1 by omega] at h2
    exact C.tr _ _ _ (hU _ (by omega)) (hU _ (by omega)) (hU _ (by omega)) hl h2
theorem Dn'.turn (C:UE prog w A s κ U R) {X:Array Keyed}{lo n c:Nat} (hU:ZcW U X) (hs:lo+n<=X.size) (hc:c<=n) (h:Dn' R X lo n) (he:Eqv R X lo c n):Dn' R (mir X (lo+c) (lo+n)) lo n:=fun i j hij hj=>by
 by_cases a:i<c
 ·rw[QJ hs (.inl (by omega))]
  by_cases b:j<c
  ·rw[QJ hs (.inl (by omega))]
   exact h i j hij hj
  ·rw[Ub hs (by omega) (by omega),show lo+c+(lo+n)-1-(lo+j)=lo+(c+n-1-j) by omega]
   exact h i _ (by omega) (by omega)
 ·rw[Ub hs (by omega) (by omega),Ub hs (by omega) (by omega),show lo+c+(lo+n)-1-(lo+j)=lo+(c+n-1-j) by omega,show lo+c+(lo+n)-1-(lo+i)=lo+(c+n-1-i) by omega]
  exact he _ _ (by omega) (by omega) (by omega) (by omega)
theorem Dn'.up {X:Array Keyed}{lo n:Nat} (hs:lo+n<=X.size) (h:Dn' R X lo n):Up R (mir X lo (lo+n)) lo n:=fun i j hij hj=>by
 rw[Ub hs (by omega) (by omega),Ub hs (by omega) (by omega),nsD hj,nsD (Nat.lt_trans hij hj)]
 exact h _ _ (by omega) (by omega)
theorem ZeC (C:UE prog w A s κ U R) {st:SortSt}{lo N:Nat}{Q:Option Nat->SortSt->Prop} (hk:kindOf st=κ) (hU:ZcW U (arrOf st)) (hn:lo+N<=(arrOf st).size) (n1:1<=N)
  (h:∀m Y,1<=m->m<=N->Vc (arrOf st) Y lo m->Up R Y lo m->Q (some m) (setArr st Y)):wpS (model prog w) A E s (countRun' lo N) Q st:=by
 rw[countRun'_eq]
 have stU:∀{Y lo m},Vc (arrOf st) Y lo m->ZcW U Y:=fun t=>hU.stir t
 refine wpS_bind (wpS_mono (wpS_forRange
  (I:=fun x (c:Option (Option Nat)×Nat) (st':SortSt)=>c.1=none/\st'=st/\c.2=x/\Up R (arrOf st) lo x)
  (Q:=fun(c:Option (Option Nat)×Nat) (st':SortSt)=>c.1=none/\st'=st/\(1<=c.2/\c.2<=N)/\Up R (arrOf st) lo c.2/\(c.2=N\/R (gA (arrOf st) (lo+c.2)) (gA (arrOf st) (lo+c.2-1))=true)) ?step ?fin ⟨rfl,rfl,rfl,fun i j hij hj=>by omega⟩) ?post)
 case fin =>
  rintro⟨o,n⟩ st' ⟨h1,h2,h3,h4⟩
  dsimp only at h1 h3 ⊢
  subst h3
  exact⟨h1,h2,by omega,h4,.inl (by omega)⟩
 case step =>
  rintro x ⟨o,n⟩ st' hx1 hx2 ⟨rfl,rfl,h3,h4⟩
  dsimp only at h3 ⊢
  subst h3
  refine wpS_bind (JN C hk hU (show lo+n<_ by omega) (show lo+n-1<_ by omega) ?_)
  dsimp only
  cases hR:R (gA (arrOf st') (lo+n)) (gA (arrOf st') (lo+n-1)) with
  |true =>
   rw[if_pos rfl]
   exact wpS_pure ⟨rfl,rfl,by dsimp only;omega,h4,.inr hR⟩
  |false =>
   rw[if_neg (by decide)]
   exact wpS_pure ⟨rfl,rfl,rfl,h4.more C hU (by omega) (.inr hR)⟩
 case post =>
  rintro⟨o,n⟩ st' ⟨h1,h2,h3,h4,h5⟩
  have h2:=h2.symm
  subst h2
  dsimp only at h1 h3 h4 h5 ⊢
  subst h1
  dsimp only
  by_cases e1:n=N
  ·rw[if_pos (by simpa using e1)]
   exact wpS_pure (h n (arrOf st) h3.1 h3.2 (Vc.refl _ _ _) h4)
  rw[if_neg (by simpa using e1)]
  have h5:=h5.resolve_left e1
  by_cases e2:n>1
  ·rw[if_pos e2]
   refine wpS_bind (JN C hk hU (show lo<_ by omega) (show lo+n-1<_ by omega) ?_)
   dsimp only
   cases hR:R (gA (arrOf st) lo) (gA (arrOf st) (lo+n-1)) with
   |true =>
    rw[if_pos rfl]
    exact wpS_pure (h n (arrOf st) h3.1 h3.2 (Vc.refl _ _ _) h4)
   |false =>
    rw[if_neg (by decide)]
    refine wpS_bind (Vo ?_)
    have le1:∀q,q<n->R (gA (arrOf st) (lo+q)) (gA (arrOf st) lo)=false/\R (gA (arrOf st) (lo+n-1)) (gA (arrOf st) (lo+q))=false:=fun q hq=>by
     refine⟨?_, ?_⟩
     ·by_cases z:q=0
      ·subst z;exact C.irr (hU _ (by omega))
      ·exact h4 0 q (by omega) hq
     ·by_cases z:q=n-1
      ·subst z;rw[nsB h3.1];exact C.irr (hU _ (by omega))
      ·have:=h4 q (n-1) (by omega) (by omega);rw[nsB h3.1] at this;exact this
    have eq1:Eqv R (arrOf st) lo 0 n:=fun i j _ hi _ hj=>C.tr _ _ _ (hU _ (by omega)) (hU _ (by omega)) (hU _ (by omega)) (C.tr _ _ _ (hU _ (by omega)) (hU _ (by omega)) (hU _ (by omega)) (le1 j hj).2 hR) (le1 i hi).1
    have t0:Vc (arrOf st) (mir (arrOf st) lo (lo+n)) lo n:=(ZY (by omega) (by omega)).wide (ZsU _) (by omega)
    have t1:Vc (arrOf st) (mir (arrOf st) lo (lo+n)) lo (n+1):=t0.wide (ZsU _) (by omega)
    have dd:Dn' R (mir (arrOf st) lo (lo+n)) lo n:=fun i j hij hj=>by
     rw[Ub (by omega) (by omega) (by omega),Ub (by omega) (by omega) (by omega),nsD hj,nsD (Nat.lt_trans hij hj)]
     exact eq1 _ _ (Ztp _) (by omega) (Ztp _) (by omega)
    have d1:Dn' R (mir (arrOf st) lo (lo+n)) lo (n+1):=dd.more C (stU t1) (by have:=t1.size;omega) (.inr (by
     rw[Ub (by omega) (by omega) (by omega),QJ (by omega) (.inr (by omega)),show lo+(lo+n)-1-(lo+n-1)=lo+0 by omega]
     have z1:=eq1 0 (n-1) (Ztp _) (by omega) (Ztp _) (by omega)
     rw[nsB h3.1] at z1
     exact C.tr _ _ _ (hU _ (by omega)) (hU _ (by omega)) (hU _ (by omega)) (C.asy _ _ (hU _ (by omega)) (hU _ (by omega)) h5) z1))
    show wpS _ _ _ _ _ _ (setArr st (mir (arrOf st) lo (lo+n)))
    generalize mir (arrOf st) lo (lo+n)=X1 at t1 d1
    clear dd t0
    refine wpS_bind (wpS_lift (wpAny_rule ⟨rfl, ?_⟩))
    refine wpS_bind (wpS_mono (wpS_forRange
     (I:=fun x (c:Option (Option Nat)×Nat×Nat) (st':SortSt)=>c.1=none/\c.2.1=x/\∃Y,st'=setArr st Y/\Vc (arrOf st) Y lo x/\Dn' R Y lo x/\c.2.2<x/\Eqv R Y lo (x-1-c.2.2) x)
     (Q:=fun(c:Option (Option Nat)×Nat×Nat) (st':SortSt)=>c.1=none/\(1<=c.2.1/\c.2.1<=N)/\∃Y,st'=setArr st Y/\Vc (arrOf st) Y lo c.2.1/\Dn' R Y lo c.2.1/\c.2.2<c.2.1/\Eqv R Y lo (c.2.1-1-c.2.2) c.2.1) ?_ ?_
     ⟨rfl,rfl,X1,rfl,t1,d1,Zu5 _,fun i j i1 i2 j1 j2=>by
      obtain rfl:i=n:=by dsimp only at i1;omega
      obtain rfl:j=i:=by dsimp only at j1;omega
      exact C.irr (stU t1 _ (by have:=t1.size;omega))⟩) ?_)
    ·rintro x ⟨o,k,e⟩ st' hx1 hx2 ⟨rfl,h3,Y,rfl,tY,dY,he,eY⟩
     dsimp only at h3 he eY ⊢
     subst h3
     have szY:=tY.size
     have uY:=stU tY
     refine wpS_bind (JN C (show kindOf (setArr st Y)=κ from hk) uY (show lo+k<Y.size by omega) (show lo+k-1<Y.size by omega) ?_)
     dsimp only
     show wpS _ _ _ _ (if R (gA Y (lo+k)) (gA Y (lo+k-1))=true then _ else _) _ _
     have one:∀{Z:Array Keyed}{q:Nat},ZcW U Z->lo+q<Z.size->Eqv R Z lo (q+1-1-0) (q+1):=fun {Z q} hZ hq i j i1 i2 j1 j2=>by
      obtain rfl:i=q:=by omega
      obtain rfl:j=i:=by omega
      exact C.irr (hZ _ hq)
     cases hR:R (gA Y (lo+k)) (gA Y (lo+k-1)) with
     |true =>
      rw[if_pos rfl]
      have as1:=C.asy _ _ (uY _ (by omega)) (uY _ (by omega)) hR
      by_cases he0:e>0
      ·rw[if_pos he0]
       refine wpS_bind (Vo (wpS_pure ⟨rfl,rfl,mir Y (lo+k-(e+1)) (lo+k),rfl, ?_, ?_,Zu5 _, ?_⟩))
       ·exact(tY.trans ((ZY (by omega) (by omega)).wide (by omega) (by omega))).wide (ZsU _) (by omega)
       ·have t4:Vc (arrOf st) (mir Y (lo+k-(e+1)) (lo+k)) lo k:=tY.trans ((ZY (by omega) (by omega)).wide (by omega) (by omega))
        have dm:=dY.turn C uY (by omega) (show k-1-e<=k by omega) eY
        rw[nsC he] at dm
        refine dm.more C (stU t4) (by have:=t4.size;omega) (.inr ?_)
        rw[Ub (by omega) (by omega) (by omega),QJ (by omega) (.inr (by omega)),nsA he]
        have q1:=eY (k-1-e) (k-1) (by omega) (by omega) (by omega) (by omega)
        rw[nsB (Zu0 he)] at q1
        exact C.tr _ _ _ (uY _ (by omega)) (uY _ (by omega)) (uY _ (by omega)) as1 q1
       ·exact one (stU (tY.trans ((ZY (by omega) (by omega)).wide (by omega) (by omega)))) (by have:=(ZY (X:=Y) (i:=lo+k-(e+1)) (j:=lo+k) (by omega) (by omega)).size;omega)
      ·rw[if_neg he0]
       exact wpS_pure ⟨rfl,rfl,Y,rfl,tY.wide (ZsU _) (by omega),dY.more C uY (by omega) (.inr as1),Zu5 _,one uY (by omega)⟩
     |false =>
      rw[if_neg (by decide)]
      refine wpS_bind (JN C (show kindOf (setArr st Y)=κ from hk) uY (show lo+k-1<Y.size by omega) (show lo+k<Y.size by omega) ?_)
      dsimp only
      show wpS _ _ _ _ (if R (gA Y (lo+k-1)) (gA Y (lo+k))=true then _ else _) _ _
      cases hL:R (gA Y (lo+k-1)) (gA Y (lo+k)) with
      |true =>
       rw[if_pos rfl]
       exact wpS_pure ⟨rfl,by dsimp only;omega,Y,rfl,tY,dY,he,eY⟩
      |false =>
       rw[if_neg (by decide)]
       refine wpS_pure ⟨rfl,rfl,Y,rfl,tY.wide (ZsU _) (by omega),dY.more C uY (by omega) (.inr hL),by dsimp only;omega,fun i j i1 i2 j1 j2=>?_⟩
       dsimp only at i1 i2 j1 j2
       have ek:∀q,k-1-e<=q->q<k->R (gA Y (lo+q)) (gA Y (lo+k-1))=false/\R (gA Y (lo+k-1)) (gA Y (lo+q))=false:=fun q q1 q2=>by
        have z1:=eY q (k-1) q1 q2 (by omega) (by omega)
        have z2:=eY (k-1) q (by omega) (by omega) q1 q2
        rw[nsB (Zu0 he)] at z1 z2
        exact⟨z1,z2⟩
       by_cases a:i<k
       ·by_cases b:j<k
        ·exact eY i j (by omega) a (by omega) b
        ·obtain rfl:j=k:=by omega
         exact C.tr _ _ _ (uY _ (by omega)) (uY _ (by omega)) (uY _ (by omega)) hL (ek i (by omega) a).1
       ·obtain rfl:i=k:=by omega
        by_cases b:j<i
        ·exact C.tr _ _ _ (uY _ (by omega)) (uY _ (by omega)) (uY _ (by omega)) (ek j (by omega) b).2 hR
        ·obtain rfl:j=i:=by omega
         exact C.irr (uY _ (by omega))
    ·rintro⟨o,k,e⟩ st' ⟨h1,h3,Y,h4,tY,dY,he,eY⟩
     dsimp only at h3 he eY ⊢
     subst h3
     rw[show max (n+1) N=N by omega] at *
     exact⟨h1,by omega,Y,h4,tY,dY,he,eY⟩
    ·rintro⟨o,n2,e⟩ st' ⟨rfl,hn2,Y,rfl,tY,dY,he,eY⟩
     dsimp only at hn2 tY dY he eY ⊢
     have szY:=tY.size
     have uY:=stU tY
     by_cases he0:e>0
     ·rw[if_pos he0]
      refine wpS_bind (Vo ?_)
      have t2:Vc (arrOf st) (mir Y (lo+n2-(e+1)) (lo+n2)) lo n2:=tY.trans ((ZY (by omega) (by omega)).wide (by omega) (by omega))
      have d2:=dY.turn C uY (by omega) (show n2-1-e<=n2 by omega) eY
      rw[show lo+(n2-1-e)=lo+n2-(e+1) by omega] at d2
      refine wpS_bind (Vo ?_)
      have sz2:(mir Y (lo+n2-(e+1)) (lo+n2)).size=(arrOf st).size:=t2.size
      have t3:Vc (arrOf st) (mir (mir Y (lo+n2-(e+1)) (lo+n2)) lo (lo+n2)) lo n2:=t2.trans ((ZY (by omega) (by omega)).wide (ZsU _) (by omega))
      have u3:Up R (mir (mir Y (lo+n2-(e+1)) (lo+n2)) lo (lo+n2)) lo n2:=d2.up (by omega)
      have sz3:=t3.size
      show wpS _ _ _ _ _ _ (setArr st (mir (mir Y (lo+n2-(e+1)) (lo+n2)) lo (lo+n2)))
      generalize mir (mir Y (lo+n2-(e+1)) (lo+n2)) lo (lo+n2)=Y3 at t3 u3 sz3
      refine wpS_bind (wpS_mono (wpS_forRange
       (I:=fun x (c:Option (Option Nat)×Nat) (st':SortSt)=>c.1=none/\st'=setArr st Y3/\c.2=x/\Up R Y3 lo x)
       (Q:=fun(c:Option (Option Nat)×Nat) (st':SortSt)=>c.1=none/\st'=setArr st Y3/\(n2<=c.2/\c.2<=N)/\Up R Y3 lo c.2) ?_ ?_ ⟨rfl,rfl,rfl,u3⟩) ?_)
      ·rintro x ⟨o,k⟩ st' hx1 hx2 ⟨rfl,rfl,h3,h4⟩
       dsimp only at h3 ⊢
       subst h3
       refine wpS_bind (JN C (show kindOf (setArr st Y3)=κ from hk) (stU t3) (show lo+k<Y3.size by omega) (show lo+k-1<Y3.size by omega) ?_)
       dsimp only
       show wpS _ _ _ _ (if R (gA Y3 (lo+k)) (gA Y3 (lo+k-1))=true then _ else _) _ _
       cases hR:R (gA Y3 (lo+k)) (gA Y3 (lo+k-1)) with
       |true =>
        rw[if_pos rfl]
        exact wpS_pure ⟨rfl,rfl,by dsimp only;omega,h4⟩
       |false =>
        rw[if_neg (by decide)]
        exact wpS_pure ⟨rfl,rfl,rfl,h4.more C (stU t3) (by omega) (.inr hR)⟩
      ·rintro⟨o,k⟩ st' ⟨h1,h2,h3,h4⟩
       dsimp only at h3 ⊢
       subst h3
       exact⟨h1,h2,by omega,h4⟩
      ·rintro⟨o,k⟩ st' ⟨rfl,rfl,h3,h4⟩
       dsimp only at h3 h4 ⊢
       exact wpS_pure (h k Y3 (by omega) h3.2 (t3.wide (ZsU _) (by omega)) h4)
     ·rw[if_neg he0]
      have t2:=tY
      have d2:=dY
      refine wpS_bind (Vo ?_)
      have sz2:(Y).size=(arrOf st).size:=t2.size
      have t3:Vc (arrOf st) (mir (Y) lo (lo+n2)) lo n2:=t2.trans ((ZY (by omega) (by omega)).wide (ZsU _) (by omega))
      have u3:Up R (mir (Y) lo (lo+n2)) lo n2:=d2.up (by omega)
      have sz3:=t3.size
      show wpS _ _ _ _ _ _ (setArr st (mir (Y) lo (lo+n2)))
      generalize mir (Y) lo (lo+n2)=Y3 at t3 u3 sz3
      refine wpS_bind (wpS_mono (wpS_forRange
       (I:=fun x (c:Option (Option Nat)×Nat) (st':SortSt)=>c.1=none/\st'=setArr st Y3/\c.2=x/\Up R Y3 lo x)
       (Q:=fun(c:Option (Option Nat)×Nat) (st':SortSt)=>c.1=none/\st'=setArr st Y3/\(n2<=c.2/\c.2<=N)/\Up R Y3 lo c.2) ?_ ?_ ⟨rfl,rfl,rfl,u3⟩) ?_)
      ·rintro x ⟨o,k⟩ st' hx1 hx2 ⟨rfl,rfl,h3,h4⟩
       dsimp only at h3 ⊢
       subst h3
       refine wpS_bind (JN C (show kindOf (setArr st Y3)=κ from hk) (stU t3) (show lo+k<Y3.size by omega) (show lo+k-1<Y3.size by omega) ?_)
       dsimp only
       show wpS _ _ _ _ (if R (gA Y3 (lo+k)) (gA Y3 (lo+k-1))=true then _ else _) _ _
       cases hR:R (gA Y3 (lo+k)) (gA Y3 (lo+k-1)) with
       |true =>
        rw[if_pos rfl]
        exact wpS_pure ⟨rfl,rfl,by dsimp only;omega,h4⟩
       |false =>
        rw[if_neg (by decide)]
        exact wpS_pure ⟨rfl,rfl,rfl,h4.more C (stU t3) (by omega) (.inr hR)⟩
      ·rintro⟨o,k⟩ st' ⟨h1,h2,h3,h4⟩
       dsimp only at h3 ⊢
       subst h3
       exact⟨h1,h2,by omega,h4⟩
      ·rintro⟨o,k⟩ st' ⟨rfl,rfl,h3,h4⟩
       dsimp only at h3 h4 ⊢
       exact wpS_pure (h k Y3 (by omega) h3.2 (t3.wide (ZsU _) (by omega)) h4)
  ·rw[if_neg e2]
   have t1:Vc (arrOf st) (arrOf st) lo (n+1):=Vc.refl _ _ _
   obtain rfl:n=1:=by omega
   have d1:Dn' R (arrOf st) lo (1+1):=fun i j hij hj=>by
    obtain rfl:i=0:=by omega
    obtain rfl:j=1:=by omega
    have:=C.asy _ _ (hU _ (by omega)) (hU _ (by omega)) h5
    rw[show lo+1-1=lo+0 by omega] at this
    exact this
   show wpS _ _ _ _ _ _ (setArr st (arrOf st))
   refine wpS_bind (wpS_lift (wpAny_rule ⟨rfl, ?_⟩))
   refine wpS_bind (wpS_mono (wpS_forRange
    (I:=fun x (c:Option (Option Nat)×Nat×Nat) (st':SortSt)=>c.1=none/\c.2.1=x/\∃Y,st'=setArr st Y/\Vc (arrOf st) Y lo x/\Dn' R Y lo x/\c.2.2<x/\Eqv R Y lo (x-1-c.2.2) x)
    (Q:=fun(c:Option (Option Nat)×Nat×Nat) (st':SortSt)=>c.1=none/\(1<=c.2.1/\c.2.1<=N)/\∃Y,st'=setArr st Y/\Vc (arrOf st) Y lo c.2.1/\Dn' R Y lo c.2.1/\c.2.2<c.2.1/\Eqv R Y lo (c.2.1-1-c.2.2) c.2.1) ?_ ?_
    ⟨rfl,rfl,(arrOf st),rfl,t1,d1,Zu5 _,fun i j i1 i2 j1 j2=>by
     obtain rfl:i=1:=by dsimp only at i1;omega
     obtain rfl:j=1:=by dsimp only at j1;omega
     exact C.irr (stU t1 _ (by have:=t1.size;omega))⟩) ?_)
   ·rintro x ⟨o,k,e⟩ st' hx1 hx2 ⟨rfl,h3,Y,rfl,tY,dY,he,eY⟩
    dsimp only at h3 he eY ⊢
    subst h3
    have szY:=tY.size
    have uY:=stU tY
    refine wpS_bind (JN C (show kindOf (setArr st Y)=κ from hk) uY (show lo+k<Y.size by omega) (show lo+k-1<Y.size by omega) ?_)
    dsimp only
    show wpS _ _ _ _ (if R (gA Y (lo+k)) (gA Y (lo+k-1))=true then _ else _) _ _
    have one:∀{Z:Array Keyed}{q:Nat},ZcW U Z->lo+q<Z.size->Eqv R Z lo (q+1-1-0) (q+1):=fun {Z q} hZ hq i j i1 i2 j1 j2=>by
     obtain rfl:i=q:=by omega
     obtain rfl:j=i:=by omega
     exact C.irr (hZ _ hq)
    cases hR:R (gA Y (lo+k)) (gA Y (lo+k-1)) with
    |true =>
     rw[if_pos rfl]
     have as1:=C.asy _ _ (uY _ (by omega)) (uY _ (by omega)) hR
     by_cases he0:e>0
     ·rw[if_pos he0]
      refine wpS_bind (Vo (wpS_pure ⟨rfl,rfl,mir Y (lo+k-(e+1)) (lo+k),rfl, ?_, ?_,Zu5 _, ?_⟩))
      ·exact(tY.trans ((ZY (by omega) (by omega)).wide (by omega) (by omega))).wide (ZsU _) (by omega)
      ·have t4:Vc (arrOf st) (mir Y (lo+k-(e+1)) (lo+k)) lo k:=tY.trans ((ZY (by omega) (by omega)).wide (by omega) (by omega))
       have dm:=dY.turn C uY (by omega) (show k-1-e<=k by omega) eY
       rw[nsC he] at dm
       refine dm.more C (stU t4) (by have:=t4.size;omega) (.inr ?_)
       rw[Ub (by omega) (by omega) (by omega),QJ (by omega) (.inr (by omega)),nsA he]
       have q1:=eY (k-1-e) (k-1) (by omega) (by omega) (by omega) (by omega)
       rw[nsB (Zu0 he)] at q1
       exact C.tr _ _ _ (uY _ (by omega)) (uY _ (by omega)) (uY _ (by omega)) as1 q1
      ·exact one (stU (tY.trans ((ZY (by omega) (by omega)).wide (by omega) (by omega)))) (by have:=(ZY (X:=Y) (i:=lo+k-(e+1)) (j:=lo+k) (by omega) (by omega)).size;omega)
     ·rw[if_neg he0]
      exact wpS_pure ⟨rfl,rfl,Y,rfl,tY.wide (ZsU _) (by omega),dY.more C uY (by omega) (.inr as1),Zu5 _,one uY (by omega)⟩
    |false =>
     rw[if_neg (by decide)]
     refine wpS_bind (JN C (show kindOf (setArr st Y)=κ from hk) uY (show lo+k-1<Y.size by omega) (show lo+k<Y.size by omega) ?_)
     dsimp only
     show wpS _ _ _ _ (if R (gA Y (lo+k-1)) (gA Y (lo+k))=true then _ else _) _ _
     cases hL:R (gA Y (lo+k-1)) (gA Y (lo+k)) with
     |true =>
      rw[if_pos rfl]
      exact wpS_pure ⟨rfl,by dsimp only;omega,Y,rfl,tY,dY,he,eY⟩
     |false =>
      rw[if_neg (by decide)]
      refine wpS_pure ⟨rfl,rfl,Y,rfl,tY.wide (ZsU _) (by omega),dY.more C uY (by omega) (.inr hL),by dsimp only;omega,fun i j i1 i2 j1 j2=>?_⟩
      dsimp only at i1 i2 j1 j2
      have ek:∀q,k-1-e<=q->q<k->R (gA Y (lo+q)) (gA Y (lo+k-1))=false/\R (gA Y (lo+k-1)) (gA Y (lo+q))=false:=fun q q1 q2=>by
       have z1:=eY q (k-1) q1 q2 (by omega) (by omega)
       have z2:=eY (k-1) q (by omega) (by omega) q1 q2
       rw[nsB (Zu0 he)] at z1 z2
       exact⟨z1,z2⟩
      by_cases a:i<k
      ·by_cases b:j<k
       ·exact eY i j (by omega) a (by omega) b
       ·obtain rfl:j=k:=by omega
        exact C.tr _ _ _ (uY _ (by omega)) (uY _ (by omega)) (uY _ (by omega)) hL (ek i (by omega) a).1
      ·obtain rfl:i=k:=by omega
       by_cases b:j<i
       ·exact C.tr _ _ _ (uY _ (by omega)) (uY _ (by omega)) (uY _ (by omega)) (ek j (by omega) b).2 hR
       ·obtain rfl:j=i:=by omega
        exact C.irr (uY _ (by omega))
   ·rintro⟨o,k,e⟩ st' ⟨h1,h3,Y,h4,tY,dY,he,eY⟩
    dsimp only at h3 he eY ⊢
    subst h3
    rw[show max (1+1) N=N by omega] at *
    exact⟨h1,by omega,Y,h4,tY,dY,he,eY⟩
   ·rintro⟨o,n2,e⟩ st' ⟨rfl,hn2,Y,rfl,tY,dY,he,eY⟩
    dsimp only at hn2 tY dY he eY ⊢
    have szY:=tY.size
    have uY:=stU tY
    by_cases he0:e>0
    ·rw[if_pos he0]
     refine wpS_bind (Vo ?_)
     have t2:Vc (arrOf st) (mir Y (lo+n2-(e+1)) (lo+n2)) lo n2:=tY.trans ((ZY (by omega) (by omega)).wide (by omega) (by omega))
     have d2:=dY.turn C uY (by omega) (show n2-1-e<=n2 by omega) eY
     rw[show lo+(n2-1-e)=lo+n2-(e+1) by omega] at d2
     refine wpS_bind (Vo ?_)
     have sz2:(mir Y (lo+n2-(e+1)) (lo+n2)).size=(arrOf st).size:=t2.size
     have t3:Vc (arrOf st) (mir (mir Y (lo+n2-(e+1)) (lo+n2)) lo (lo+n2)) lo n2:=t2.trans ((ZY (by omega) (by omega)).wide (ZsU _) (by omega))
     have u3:Up R (mir (mir Y (lo+n2-(e+1)) (lo+n2)) lo (lo+n2)) lo n2:=d2.up (by omega)
     have sz3:=t3.size
     show wpS _ _ _ _ _ _ (setArr st (mir (mir Y (lo+n2-(e+1)) (lo+n2)) lo (lo+n2)))
     generalize mir (mir Y (lo+n2-(e+1)) (lo+n2)) lo (lo+n2)=Y3 at t3 u3 sz3
     refine wpS_bind (wpS_mono (wpS_forRange
      (I:=fun x (c:Option (Option Nat)×Nat) (st':SortSt)=>c.1=none/\st'=setArr st Y3/\c.2=x/\Up R Y3 lo x)
      (Q:=fun(c:Option (Option Nat)×Nat) (st':SortSt)=>c.1=none/\st'=setArr st Y3/\(n2<=c.2/\c.2<=N)/\Up R Y3 lo c.2) ?_ ?_ ⟨rfl,rfl,rfl,u3⟩) ?_)
     ·rintro x ⟨o,k⟩ st' hx1 hx2 ⟨rfl,rfl,h3,h4⟩
      dsimp only at h3 ⊢
      subst h3
      refine wpS_bind (JN C (show kindOf (setArr st Y3)=κ from hk) (stU t3) (show lo+k<Y3.size by omega) (show lo+k-1<Y3.size by omega) ?_)
      dsimp only
      show wpS _ _ _ _ (if R (gA Y3 (lo+k)) (gA Y3 (lo+k-1))=true then _ else _) _ _
      cases hR:R (gA Y3 (lo+k)) (gA Y3 (lo+k-1)) with
      |true =>
       rw[if_pos rfl]
       exact wpS_pure ⟨rfl,rfl,by dsimp only;omega,h4⟩
      |false =>
       rw[if_neg (by decide)]
       exact wpS_pure ⟨rfl,rfl,rfl,h4.more C (stU t3) (by omega) (.inr hR)⟩
     ·rintro⟨o,k⟩ st' ⟨h1,h2,h3,h4⟩
      dsimp only at h3 ⊢
      subst h3
      exact⟨h1,h2,by omega,h4⟩
     ·rintro⟨o,k⟩ st' ⟨rfl,rfl,h3,h4⟩
      dsimp only at h3 h4 ⊢
      exact wpS_pure (h k Y3 (by omega) h3.2 (t3.wide (ZsU _) (by omega)) h4)
    ·rw[if_neg he0]
     have t2:=tY
     have d2:=dY
     refine wpS_bind (Vo ?_)
     have sz2:(Y).size=(arrOf st).size:=t2.size
     have t3:Vc (arrOf st) (mir (Y) lo (lo+n2)) lo n2:=t2.trans ((ZY (by omega) (by omega)).wide (ZsU _) (by omega))
     have u3:Up R (mir (Y) lo (lo+n2)) lo n2:=d2.up (by omega)
     have sz3:=t3.size
     show wpS _ _ _ _ _ _ (setArr st (mir (Y) lo (lo+n2)))
     generalize mir (Y) lo (lo+n2)=Y3 at t3 u3 sz3
     refine wpS_bind (wpS_mono (wpS_forRange
      (I:=fun x (c:Option (Option Nat)×Nat) (st':SortSt)=>c.1=none/\st'=setArr st Y3/\c.2=x/\Up R Y3 lo x)
      (Q:=fun(c:Option (Option Nat)×Nat) (st':SortSt)=>c.1=none/\st'=setArr st Y3/\(n2<=c.2/\c.2<=N)/\Up R Y3 lo c.2) ?_ ?_ ⟨rfl,rfl,rfl,u3⟩) ?_)
     ·rintro x ⟨o,k⟩ st' hx1 hx2 ⟨rfl,rfl,h3,h4⟩
      dsimp only at h3 ⊢
      subst h3
      refine wpS_bind (JN C (show kindOf (setArr st Y3)=κ from hk) (stU t3) (show lo+k<Y3.size by omega) (show lo+k-1<Y3.size by omega) ?_)
      dsimp only
      show wpS _ _ _ _ (if R (gA Y3 (lo+k)) (gA Y3 (lo+k-1))=true then _ else _) _ _
      cases hR:R (gA Y3 (lo+k)) (gA Y3 (lo+k-1)) with
      |true =>
       rw[if_pos rfl]
       exact wpS_pure ⟨rfl,rfl,by dsimp only;omega,h4⟩
      |false =>
       rw[if_neg (by decide)]
       exact wpS_pure ⟨rfl,rfl,rfl,h4.more C (stU t3) (by omega) (.inr hR)⟩
     ·rintro⟨o,k⟩ st' ⟨h1,h2,h3,h4⟩
      dsimp only at h3 ⊢
      subst h3
      exact⟨h1,h2,by omega,h4⟩
     ·rintro⟨o,k⟩ st' ⟨rfl,rfl,h3,h4⟩
      dsimp only at h3 h4 ⊢
      exact wpS_pure (h k Y3 (by omega) h3.2 (t3.wide (ZsU _) (by omega)) h4)
end
noncomputable abbrev ZeA:=Nat×Nat×Nat
noncomputable def V8 (R:Keyed->Keyed->Bool) (X:Array Keyed):Nat->List ZeA->Nat->Prop
 |s,[],e=>s=e
 |s,(c,n,_)::r,e=>c=s/\0<n/\Up R X c n/\V8 R X (s+n) r e
section
variable {prog:Program}{w:World}{A:Around}{E:Value->Shared->Prop}{s:Shared}{κ:SortKind}{U:Keyed->Prop}{R:Keyed->Keyed->Bool}
theorem V8.le {X:Array Keyed}:∀{L:List ZeA}{a e:Nat},V8 R X a L e->a+L.length<=e
 |[],a,e,h=>by have h:a=e:=h;simp[h]
 |(c,n,p)::L,a,e,h=>by
  obtain⟨_,h1,_,h2⟩:=h
  have:=V8.le h2
  simp only[Ztl];omega
theorem V8.app {X:Array Keyed}:∀{L M:List ZeA}{a e:Nat},V8 R X a (L++M) e ↔ ∃q,V8 R X a L q/\V8 R X q M e
 |[],M,a,e=>⟨fun h=>⟨a,rfl,h⟩,fun⟨q,h1,h2⟩=>by have h1:a=q:=h1;subst h1;exact h2⟩
 |(c,n,p)::L,M,a,e=>by
  show (c=a/\0<n/\Up R X c n/\V8 R X (a+n) (L++M) e) ↔ ∃q,(c=a/\0<n/\Up R X c n/\V8 R X (a+n) L q)/\V8 R X q M e
  constructor
  ·rintro⟨h1,h2,h3,h4⟩
   obtain⟨q,q1,q2⟩:=V8.app.mp h4
   exact⟨q,⟨h1,h2,h3,q1⟩,q2⟩
  ·rintro⟨q,⟨h1,h2,h3,h4⟩,q2⟩
   exact⟨h1,h2,h3,V8.app.mpr ⟨q,h4,q2⟩⟩
theorem Up.stir {X Y:Array Keyed}{lo m c n:Nat} (h:Up R X c n) (t:Vc X Y lo m) (d:c+n<=lo\/lo+m<=c):Up R Y c n:=fun i j hij hj=>by
 rw[Vv (t.out (c+j) (by omega)),Vv (t.out (c+i) (by omega))]
 exact h i j hij hj
theorem V8.stir {X Y:Array Keyed}{lo m:Nat} (t:Vc X Y lo m):∀{L:List ZeA}{a e:Nat},V8 R X a L e->(e<=lo\/lo+m<=a)->V8 R Y a L e
 |[],a,e,h,_=>h
 |(c,n,p)::L,a,e,h,d=>by
  obtain⟨h1,h2,h3,h4⟩:=h
  have:=V8.le h4
  exact⟨h1,h2,h3.stir t (by omega),V8.stir t h4 (by omega)⟩
theorem Up.srt {X:Array Keyed}{c n:Nat} (h:Up R X c n) (hs:c+n<=X.size):Srt R ((X.toList.drop c).take n):=by
 refine ZtY.mpr fun i j hi hj hij=>?_
 have hi':i<n:=by rw[Ztk] at hi;omega
 have hj':j<n:=by rw[Ztk] at hj;omega
 have e:∀t,t<n->∀ht,((X.toList.drop c).take n)[t]'ht=gA X (c+t):=fun t htn ht=>by
  have h1:((X.toList.drop c).take n)[t]?=some (gA X (c+t)):=by
   rw[Zt8,if_pos htn,ZtB,Ztz,Zat (by omega)]
  rw[ZsP ht] at h1
  exact Option.some.inj h1
 rw[e i hi' hi,e j hj' hj]
 exact h i j hij hj'
theorem Srt.up {X:Array Keyed}{c n:Nat}{pre W post:List Keyed} (hX:X.toList=pre++(W++post)) (lp:pre.length=c) (lW:W.length=n) (h:Srt R W):Up R X c n:=fun i j hij hj=>by
 have g:∀t (ht:t<n),gA X (c+t)=W[t]'(by omega):=fun t ht=>by
  refine Zju ?_
  rw[<- Ztz,hX,ZsY (by omega),lp,show c+t-c=t by omega,Ztb (by omega),ZsP (by omega)]
 rw[g i (by omega),g j hj]
 exact ZtY.mp h i j (by omega) (by omega) hij
theorem ZgS {L M:List ZeA}{a b c:ZeA}{P:Array ZeA} (h:P.toList=L++a::b::M):(((P.setIfInBounds L.length c).eraseIdxIfInBounds (L.length+1))).toList=L++c::M:=by
 have hz:L.length+1<(P.setIfInBounds L.length c).size:=by
  have:=congrArg List.length h
  rw[ZsX] at this
  rw[Array.size_setIfInBounds,this];simp
 rw[Array.eraseIdxIfInBounds,dif_pos hz,Array.toList_eraseIdx,ZuN,h]
 rw[List.set_append_right _ _ (ZsU _),Zu3,List.set_cons_zero,List.eraseIdx_append_of_length_le (by omega),show L.length+1-L.length=1 by omega]
 rfl
theorem Zbh (C:UE prog w A s κ U R) {st:SortSt}{L M:List ZeA}{c n p d m p2 e:Nat}{Q:Bool->SortSt->Prop} (hk:kindOf st=κ) (hf:failedOf st=none) (hU:ZcW U (arrOf st))
  (hp:(pendingOf st).toList=L++(c,n,p)::(d,m,p2)::M) (hr:V8 R (arrOf st) 0 (pendingOf st).toList e) (he:e<=(arrOf st).size)
  (h:∀st',kindOf st'=κ->failedOf st'=none->(pendingOf st').toList=L++(c,n+m,p)::M->Vc (arrOf st) (arrOf st') c (n+m)->c+n+m<=e->V8 R (arrOf st') 0 (pendingOf st').toList e->Q true st') :
  wpS (model prog w) A E s (mergeAt' L.length) Q st:=by
 rw[hp] at hr
 obtain⟨q,r1,r2⟩:=V8.app.mp hr
 obtain⟨rfl,n0,u1,rfl,m0,u2,r3⟩:=r2
 have le3:=V8.le r3
 have hsz:c+n+m<=(arrOf st).size:=by omega
 have sp:(arrOf st).toList=(arrOf st).toList.take c++(((arrOf st).toList.drop c).take n++(((arrOf st).toList.drop (c+n)).take m++(arrOf st).toList.drop (c+n+m))):=by
  rw[VT,VT,Ztq]
 have lt:(arrOf st).toList.length=(arrOf st).size:=ZsX
 have inU:∀x∈(arrOf st).toList,U x:=fun x hx=>by
  obtain⟨i,hi⟩:=ZtK hx
  have hl:=(ZsR.mp hi).1
  rw[Ztz] at hi
  rw[<- Zju hi]
  exact hU i (by omega)
 have i1:(pendingOf st)[L.length]?=some (c,n,p):=by
  rw[<- Ztz,hp,ZsY (ZsU _),Zu3];rfl
 have i2:(pendingOf st)[L.length+1]?=some (c+n,m,p2):=by
  rw[<- Ztz,hp,ZsY (by omega),show L.length+1-L.length=1 by omega];rfl
 refine Zca C hk hf i1 i2 sp (by rw[Ztk];omega) (by rw[Ztk,ZtL];omega) (by rw[Ztk,ZtL];omega) rfl n0 m0
  (fun x hx=>inU x (Zty (Ztt hx))) (fun x hx=>inU x (Zty (Ztt hx))) (u1.srt (by omega)) (u2.srt (by omega)) fun st' W k1 k2 k3 k4 k5 k6=>?_
 have lW:W.length=n+m:=by rw[k6.length_eq,Zt7,Ztk,Ztk,ZtL,ZtL];omega
 have lpre:((arrOf st).toList.take c).length=c:=by rw[Ztk];omega
 have hst:Vc (arrOf st) (arrOf st') c (n+m):=by
  refine⟨?_,fun k hk'=>?_⟩
  ·refine ZuO.mpr ?_
   rw[k4]
   conv=>rhs;rw[sp]
   refine List.Perm.append_left _ ?_
   rw[<- Zta]
   exact k6.append_right _
  ·rw[<- Ztz,<- Ztz,k4]
   rcases hk' with z|z
   ·rw[Ztb (by omega),Zt8,if_pos z]
   ·rw[ZsY (by omega),lpre,ZsY (by omega),lW,ZtB]
    congr 1;omega
 have kp:(pendingOf st').toList=L++(c,n+m,p)::M:=by rw[k3];exact ZgS hp
 refine h st' k1 k2 kp hst (by omega) ?_
 rw[kp]
 refine V8.app.mpr ⟨c,r1.stir hst (.inl (ZsU _)),rfl,by omega,Srt.up k4 lpre lW k5, ?_⟩
 rw[<- Nat.add_assoc]
 exact r3.stir hst (.inr (by omega))
structure RSt (κ:SortKind) (U:Keyed->Prop) (R:Keyed->Keyed->Bool) (X:Array Keyed) (lo:Nat) (st':SortSt):Prop where
 kd:kindOf st'=κ
 fl:failedOf st'=none
 pm:(arrOf st').Perm X
 us:ZcW U (arrOf st')
 rn:V8 R (arrOf st') 0 (pendingOf st').toList lo
 le:lo<=X.size
theorem RSt.sz {X:Array Keyed}{lo:Nat}{st':SortSt} (h:RSt κ U R X lo st'):(arrOf st').size=X.size:=h.pm.size_eq
theorem V8.mod {X:Array Keyed}{f:ZeA->ZeA} (hf:∀c n p,∃p',f (c,n,p)=(c,n,p')):∀{L:List ZeA}{a e:Nat},V8 R X a L e->∀i,V8 R X a (L.modify i f) e
 |[],a,e,h,i=>by simpa using h
 |(c,n,p)::L,a,e,h,0=>by
  obtain⟨p',hp'⟩:=hf c n p
  rw[List.modify_zero_cons,hp']
  exact h
 |(c,n,p)::L,a,e,h,i+1=>by
  rw[List.modify_succ_cons]
  exact⟨h.1,h.2.1,h.2.2.1,V8.mod hf h.2.2.2 i⟩
theorem Zks {L:List ZeA}{i:Nat} (h:i+1<L.length):∃A a b B,L=A++a::b::B/\A.length=i:=by
 refine⟨L.take i,L[i],L[i+1],L.drop (i+2), ?_,by rw[Ztk];omega⟩
 rw[<- Zth h,<- Zth (by omega),Ztq]
theorem UG (C:UE prog w A s κ U R) {X:Array Keyed}{st1:SortSt}{lo i:Nat}{Q:Bool->SortSt->Prop} (S1:RSt κ U R X lo st1) (hi:i+1<(pendingOf st1).size)
  (h:∀st',RSt κ U R X lo st'->(pendingOf st').size+1=(pendingOf st1).size->(∀n,Up R (arrOf st1) lo n->Up R (arrOf st') lo n)->Q true st'):wpS (model prog w) A E s (mergeAt' i) Q st1:=by
 obtain⟨L,⟨c,n,p⟩,⟨d,m,p2⟩,M,hL,rfl⟩:=Zks (L:=(pendingOf st1).toList) (by rw[ZsX];exact hi)
 refine Zbh C S1.kd S1.fl S1.us hL S1.rn (by rw[S1.sz];exact S1.le) fun st' k1 k2 k3 k4 k5 k6=>h st' ⟨k1,k2,k4.perm.trans S1.pm,S1.us.stir k4,k6,S1.le⟩ ?_ fun q hq=>hq.stir k4 (.inr (by omega))
 have e1:=congrArg List.length hL
 have e2:=congrArg List.length k3
 rw[ZsX] at e1 e2
 simp only[Zt7,Ztl] at e1 e2
 omega
theorem ZbX (C:UE prog w A s κ U R) {st:SortSt}{Q:Unit->SortSt->Prop} (hk:kindOf st=κ) (hf:failedOf st=none) (hU:ZcW U (arrOf st)) (hp:pendingOf st=#[])
  (h:∀st',failedOf st'=none->(arrOf st').Perm (arrOf st)->Up R (arrOf st') 0 (arrOf st).size->Q () st'):wpS (model prog w) A E s sortRuns' Q st:=by
 rw[sortRuns'_eq]
 refine wpS_bind (wpS_get ?_)
 dsimp only
 have S0:RSt κ U R (arrOf st) 0 st:=⟨hk,hf,Array.Perm.refl _,hU,by rw[hp];rfl,Ztp _⟩
 generalize hX:arrOf st=X at S0 h
 refine wpS_bind (wpS_mono (wpS_forRange
  (I:=fun x (c:Option Unit×Nat) (st':SortSt)=>c.1=none/\RSt κ U R X c.2 st'/\(x<=c.2\/X.size<=c.2))
  (Q:=fun(c:Option Unit×Nat) (st':SortSt)=>c.1=none/\RSt κ U R X X.size st') ?step ?fin ⟨rfl,S0,.inl (ZsU _)⟩) ?post)
 case fin =>
  rintro⟨o,lo⟩ st' ⟨h1,h2,h3⟩
  dsimp only at h1 h2 h3 ⊢
  have:=h2.le
  obtain rfl:lo=X.size:=by omega
  exact⟨h1,h2⟩
 case step =>
  rintro x ⟨o,lo⟩ st1 _ hx ⟨rfl,S1,h3⟩
  dsimp only at S1 h3 ⊢
  have hle:=S1.le
  have hsz:=S1.sz
  by_cases e0:lo ≥ X.size
  ·rw[if_pos e0]
   obtain rfl:lo=X.size:=by omega
   exact wpS_pure ⟨rfl,S1⟩
  rw[if_neg e0]
  refine wpS_bind (ZeC C S1.kd S1.us (show lo+(X.size-lo)<=_ by omega) (by omega) fun m Y m1 m2 t u=>?_)
  dsimp only
  have S1':RSt κ U R X lo (setArr st1 Y):=⟨S1.kd,S1.fl,t.perm.trans S1.pm,S1.us.stir t,S1.rn.stir t (.inl (ZsU _)),S1.le⟩
  by_cases e1:m<minRun' X.size X.size 0
  ·rw[if_pos e1]
   have f1:m<=min (X.size-lo) (minRun' X.size X.size 0):=by omega
   have f2:min (X.size-lo) (minRun' X.size X.size 0)<=X.size-lo:=ZuE _ _
   generalize min (X.size-lo) (minRun' X.size X.size 0)=N1 at f1 f2
   refine wpS_bind (wpS_lift (wpAny_rule ⟨rfl, ?_⟩))
   refine wpS_bind (Zi1 C (show kindOf (setArr st1 Y)=κ from S1.kd) S1'.us (show lo+N1<=(arrOf (setArr st1 Y)).size by rw[S1'.sz];omega) f1 (by omega) u fun Y2 t2 u2=>?_)
   rw[if_neg (by decide)]
   have t2:Vc Y Y2 lo N1:=t2
   have S2:RSt κ U R X lo (setArr st1 Y2):=⟨S1.kd,S1.fl,t2.perm.trans S1'.pm,S1'.us.stir t2,S1'.rn.stir t2 (.inl (ZsU _)),S1.le⟩
   show wpS _ _ _ _ _ _ (setArr st1 Y2)
   have PUSH:∀st3,RSt κ U R X lo st3->Up R (arrOf st3) lo (N1)->RSt κ U R X (lo+(N1)) (setPending st3 ((pendingOf st3).push (lo,N1,0))):=fun st3 S3 u3 =>
    ⟨S3.kd,S3.fl,S3.pm,S3.us,by
     show V8 R (arrOf st3) 0 ((pendingOf st3).push (lo,N1,0)).toList (lo+(N1))
     rw[Zuz]
     exact V8.app.mpr ⟨lo,S3.rn,rfl,by omega,u3,rfl⟩,by omega⟩
   refine wpS_bind (wpS_get ?_)
   cases hb:(pendingOf (setArr st1 Y2)).back? with
   |none =>
    dsimp only
    exact wpS_bind (wpS_modify (wpS_pure ⟨rfl,PUSH _ S2 u2,.inl (by dsimp only;omega)⟩))
   |some q =>
    obtain⟨s1,n1,p1⟩:=q
    dsimp only
    refine wpS_bind (wpS_mono (wpS_forRange
     (I:=fun _ (c:Option Unit×Unit) (st':SortSt)=>c.1=none/\RSt κ U R X lo st'/\Up R (arrOf st') lo (N1))
     (Q:=fun(c:Option Unit×Unit) (st':SortSt)=>c.1=none/\RSt κ U R X lo st'/\Up R (arrOf st') lo (N1)) ?_ (fun c st' hc=>hc) ⟨rfl,S2,u2⟩) ?_)
    ·rintro y ⟨o,_⟩ st3 _ hy ⟨rfl,S3,u3⟩
     refine wpS_bind (wpS_get ?_)
     by_cases hsz3:(pendingOf st3).size>1
     ·rw[if_pos hsz3]
      have hg:(pendingOf st3)[(pendingOf st3).size-2]?=some ((pendingOf st3)[(pendingOf st3).size-2]'(by omega)):=Array.getElem?_eq_getElem (by omega)
      rw[hg]
      generalize (pendingOf st3)[(pendingOf st3).size-2]'(by omega)=q3 at hg
      obtain⟨a3,b3,older⟩:=q3
      dsimp only
      split
      ·exact wpS_pure ⟨rfl,S3,u3⟩
      ·refine wpS_bind (UG C S3 (by omega) fun st4 S4 _ up4=>?_)
       rw[if_neg (by decide)]
       exact wpS_pure ⟨rfl,S4,up4 _ u3⟩
     ·rw[if_neg hsz3]
      exact wpS_pure ⟨rfl,S3,u3⟩
    ·rintro⟨o,_⟩ st3 ⟨h1,S3,u3⟩
     dsimp only at h1
     subst h1
     dsimp only
     refine wpS_bind (wpS_modify (wpS_bind (wpS_modify (wpS_pure ⟨rfl, ?_,.inl (by dsimp only;omega)⟩))))
     refine PUSH (setPending st3 _) ⟨S3.kd,S3.fl,S3.pm,S3.us, ?_,S3.le⟩ u3
     show V8 R (arrOf st3) 0 ((pendingOf st3).modify _ _).toList lo
     rw[Array.toList_modify]
     exact S3.rn.mod (fun _ _ _=>⟨_,rfl⟩) _
  ·rw[if_neg e1]
   have S2:=S1'
   have u2:=u
   have PUSH:∀st3,RSt κ U R X lo st3->Up R (arrOf st3) lo (m)->RSt κ U R X (lo+(m)) (setPending st3 ((pendingOf st3).push (lo,m,0))):=fun st3 S3 u3 =>
    ⟨S3.kd,S3.fl,S3.pm,S3.us,by
     show V8 R (arrOf st3) 0 ((pendingOf st3).push (lo,m,0)).toList (lo+(m))
     rw[Zuz]
     exact V8.app.mpr ⟨lo,S3.rn,rfl,by omega,u3,rfl⟩,by omega⟩
   refine wpS_bind (wpS_get ?_)
   cases hb:(pendingOf (setArr st1 Y)).back? with
   |none =>
    dsimp only
    exact wpS_bind (wpS_modify (wpS_pure ⟨rfl,PUSH _ S2 u2,.inl (by dsimp only;omega)⟩))
   |some q =>
    obtain⟨s1,n1,p1⟩:=q
    dsimp only
    refine wpS_bind (wpS_mono (wpS_forRange
     (I:=fun _ (c:Option Unit×Unit) (st':SortSt)=>c.1=none/\RSt κ U R X lo st'/\Up R (arrOf st') lo (m))
     (Q:=fun(c:Option Unit×Unit) (st':SortSt)=>c.1=none/\RSt κ U R X lo st'/\Up R (arrOf st') lo (m)) ?_ (fun c st' hc=>hc) ⟨rfl,S2,u2⟩) ?_)
    ·rintro y ⟨o,_⟩ st3 _ hy ⟨rfl,S3,u3⟩
     refine wpS_bind (wpS_get ?_)
     by_cases hsz3:(pendingOf st3).size>1
     ·rw[if_pos hsz3]
      have hg:(pendingOf st3)[(pendingOf st3).size-2]?=some ((pendingOf st3)[(pendingOf st3).size-2]'(by omega)):=Array.getElem?_eq_getElem (by omega)
      rw[hg]
      generalize (pendingOf st3)[(pendingOf st3).size-2]'(by omega)=q3 at hg
      obtain⟨a3,b3,older⟩:=q3
      dsimp only
      split
      ·exact wpS_pure ⟨rfl,S3,u3⟩
      ·refine wpS_bind (UG C S3 (by omega) fun st4 S4 _ up4=>?_)
       rw[if_neg (by decide)]
       exact wpS_pure ⟨rfl,S4,up4 _ u3⟩
     ·rw[if_neg hsz3]
      exact wpS_pure ⟨rfl,S3,u3⟩
    ·rintro⟨o,_⟩ st3 ⟨h1,S3,u3⟩
     dsimp only at h1
     subst h1
     dsimp only
     refine wpS_bind (wpS_modify (wpS_bind (wpS_modify (wpS_pure ⟨rfl, ?_,.inl (by dsimp only;omega)⟩))))
     refine PUSH (setPending st3 _) ⟨S3.kd,S3.fl,S3.pm,S3.us, ?_,S3.le⟩ u3
     show V8 R (arrOf st3) 0 ((pendingOf st3).modify _ _).toList lo
     rw[Array.toList_modify]
     exact S3.rn.mod (fun _ _ _=>⟨_,rfl⟩) _
 case post =>
  rintro⟨o,lo⟩ st1 ⟨h1,S1⟩
  dsimp only at h1
  subst h1
  dsimp only
  refine wpS_bind (wpS_mono (wpS_forRange
   (I:=fun x (c:Option Unit×Unit) (st':SortSt)=>c.1=none/\RSt κ U R X X.size st'/\((pendingOf st').size+x<=X.size\/(pendingOf st').size<=1))
   (Q:=fun(c:Option Unit×Unit) (st':SortSt)=>c.1=none/\RSt κ U R X X.size st'/\(pendingOf st').size<=1) ?_ ?_ ⟨rfl,S1,.inl ?_⟩) ?_)
  ·rintro x ⟨o,_⟩ st3 _ hx ⟨rfl,S3,h3⟩
   refine wpS_bind (wpS_get ?_)
   by_cases e1:(pendingOf st3).size<=1
   ·rw[if_pos e1]
    exact wpS_pure ⟨rfl,S3,e1⟩
   ·rw[if_neg e1]
    refine wpS_bind (UG C S3 ?_ fun st4 S4 z4 _=>?_)
    ·have hp3:1<(pendingOf st3).size:=Nat.lt_of_not_le e1
     have both:∀(b:Prop) [Decidable b],(if b then (pendingOf st3).size-2-1 else (pendingOf st3).size-2)+1<(pendingOf st3).size:=fun b _=>by
      by_cases hb:b
      ·rw[if_pos hb];omega
      ·rw[if_neg hb];omega
     exact both _
    ·rw[if_neg (by decide)]
     exact wpS_pure ⟨rfl,S4,by omega⟩
  ·rintro⟨o,_⟩ st3 ⟨h1,S3,h3⟩
   have:=V8.le S3.rn
   rw[ZsX] at this
   exact⟨h1,S3,by omega⟩
  ·have:=V8.le S1.rn
   rw[ZsX] at this
   omega
  ·rintro⟨o,_⟩ st3 ⟨h1,S3,h3⟩
   dsimp only at h1
   subst h1
   refine wpS_pure (h st3 S3.fl S3.pm ?_)
   have rn:=S3.rn
   have hl:(pendingOf st3).toList.length<=1:=by rw[ZsX];exact h3
   match hL:(pendingOf st3).toList with
   |[] =>
    rw[hL] at rn
    have z:0=X.size:=rn
    intro i j _ hj
    omega
   |[(c,n,p)] =>
    rw[hL] at rn
    obtain⟨rfl,_,z1,z2⟩:=rn
    have z2:0+n=X.size:=z2
    rw[<- z2,ZtA];exact z1
   |_::_::_ =>
    rw[hL] at hl
    simp at hl
end
end L2
namespace L2
open PySem PySem.Spec PyProof.Rows
section
end
section
open Builtin Builtin.Str
end
section
end
noncomputable def newT (xs:List PV):Rr PV:=if xs.length<=1000000 then .ok (.lst xs) else .bad
section
variable {K:W.Frag}{B:Addr->Prop}{EX:PX->Hp->Prop}{H0 H:Hp}{σ:St}{Γ Γ':List Md}{ρ:List PV}{F:Nat->List Addr}{R:List Addr}
theorem ZcD {ta:TA}{fa:List PV->Rr (List PV)} (ha:DAA K EX Γ Γ' ta fa):DE K EX Γ Γ' .A (Zkk ta) (fun ρ=>(fa ρ).bind mkL):=fun B H0 H σ ρ F R Q A d=>by
 refine ha B H0 H σ ρ F R _ A (d.bind.imp (fun xs _ d vs H1 F1 s1 f1 p1 A1=>?_) fun e q=>q)
 obtain⟨hl,d⟩:=Dn.mkL d
 refine⟨by rw[p1.length];exact U3 hl,fun p hp=>?_⟩
 have e:=Zw.new (H:=H1) (o:=.lst vs) hp
 exact d _ _ (s1.trans e) ⟨F1,f1,⟨p,vs,rfl,.inl ⟨.inl Z2,trivial⟩,p1.same e⟩,A1.grow e⟩
end
noncomputable def Ziw (l:Addr) (a b c:Int):HO:=.ext fun h=>∃t u v,IsRange h l a b c t u v
def Zkz:List V->Hp->VK->Prop:=fun xs H Q=>(∃n,xs=[.int n]/\∀l,H l=none->Q (.ref l) (upd H l (Ziw l 0 n 1))) \/
 ∃a b c:Int,xs=[.int a,.int b,.int c]/\c≠0/\c.natAbs<1073741824/\∀l,H l=none->Q (.ref l) (upd H l (Ziw l a b c))
section
variable {X:Cx}
theorem ZeU {P:Program}{w:World}{H:Hp}{h:Heap}{l:Addr}{a b c:Int}{t u v:Tok} (e:IsRange h l a b c t u v):JI P w H h l (Ziw l a b c):=
 ⟨⟨t,u,v,e⟩,⟨_,e⟩,fun h1 h2 ⟨t,u,v,q⟩ k=>⟨t,u,v,k _ q⟩⟩
theorem Zgs:JJ X (.type "range") Zkz:=by
 intro pins s σ H xs us Q I r h
 have hf:=I.hok.fresh (ZsU _)
 rcases h with ⟨n,rfl,q⟩|⟨a,b,c,rfl,hc,hc2,q⟩
 ·cases r with
  |cons r1 r2 =>
   cases r2
   obtain⟨t,rfl⟩:=r1
   refine call_range_1 ?_
   exact⟨.ref s.heap.objs.size,_,I.laid (a:=s.heap.objs.size) (o:=Ziw s.heap.objs.size 0 n 1) (t':=s.toks+1+1) (fun b u e=>Heap.get?_push_of_some _ e) (ZsU _) (ZeU (IsRange.new ..)),rfl,q _ hf⟩
 ·cases r with
  |cons r1 r2 =>
   cases r2 with
   |cons r2 r3 =>
    cases r3 with
    |cons r3 r4 =>
     cases r4
     obtain⟨t,rfl⟩:=r1
     obtain⟨u,rfl⟩:=r2
     obtain⟨v,rfl⟩:=r3
     refine call_range_3 hc ?_ (.inl (PyProof.noPylong_small hc2))
     exact⟨.ref s.heap.objs.size,_,I.laid (a:=s.heap.objs.size) (o:=Ziw s.heap.objs.size a b c) (t':=s.toks) (fun b u e=>Heap.get?_push_of_some _ e) (ZsU _) (ZeU (IsRange.new ..)),rfl,q _ hf⟩
noncomputable def Vr (a c:Int) (n:Nat):List Int:=(List.range n).map fun(k:Nat)=>a+(k:Int)*c
theorem ZdZ {a c:Int}:∀{n:Nat}{us:List Value},us.length=n->(∀(j:Nat) (v:Value),us[j]?=some v->∃t,v=Value.int (a+(j:Int)*c) t)->ZX ((Vr a c n).map V.int) us:=by
 intro n us hl h
 have key:∀(us:List Value) (k:Nat),(∀(j:Nat) (v:Value),us[j]?=some v->∃t,v=Value.int (a+((k+j:Nat):Int)*c) t)->ZX (((List.range' k us.length).map fun(k:Nat)=>a+(k:Int)*c).map V.int) us:=by
  intro us
  induction us with
  |nil=>intro k _;exact .nil
  |cons u us ih =>
   intro k h
   obtain⟨t,e⟩:=h 0 u rfl
   refine .cons ⟨t,by simpa using e⟩ ?_
   have:=ih (k+1) (fun j v hj=>by
    obtain⟨t,e⟩:=h (j+1) v (by simpa using hj)
    exact⟨t,by rw[e];congr 3;omega⟩)
   exact this
 have:=key us 0 (fun j v hj=>by simpa using h j v hj)
 rw[hl,<- List.range_eq_range'] at this
 exact this
def ZaE:List V->Hp->VK->Prop:=fun xs H Q=>∃p a b c,xs=[.ref p]/\H p=some (Ziw p a b c)/\Builtin.Range.small a b c=true/\0<=Builtin.Range.rangeSize a b c/\Builtin.Range.rangeSize a b c<=1000000 /\
 ∀l,H l=none->Q (.ref l) (upd H l (.lst ((Vr a c (Builtin.Range.rangeSize a b c).toNat).map V.int)))
theorem ZbO (hc:X.calm=true):JJ X (.type "list") ZaE:=by
 intro pins s σ H xs us Q I r h
 obtain⟨p,a,b,c,rfl,hp,hs,h0,h1,q⟩:=h
 cases r with
 |cons r1 r2 =>
  cases r2
  cases r1
  obtain⟨⟨t,u,v,hr⟩,_⟩:=I.hok p _ hp
  have hf:=I.hok.fresh (ZsU _)
  refine call_list_range (n:=(Builtin.Range.rangeSize a b c).toNat) (I.ok.hd hc) hr hs (by omega) (by omega) fun h' tk acc' c' hk hS hacc=>?_
  refine⟨.ref s.heap.objs.size,_,I.laid (a:=s.heap.objs.size) (o:=.lst ((Vr a c (Builtin.Range.rangeSize a b c).toNat).map V.int)) (t':=tk) hk (ZsU _) ?_,rfl,q _ hf⟩
  refine⟨?_,acc'.toList,c',ZdZ (by simpa using hacc.1) (fun j v hj=>hacc.2 j v (by simpa using hj)),by simpa using hS⟩
  simp only[ZsV,Vr,Zu1]
  exact Ztu (show _<=1000000 by omega) (by decide)
variable {K:W.Frag}{B:Addr->Prop}{EX:PX->Hp->Prop}{H0 H H':Hp}{σ:St}{Γ Γ':List Md}{ρ:List PV}{F:Nat->List Addr}{R:List Addr}{ta:TA}{fa:List PV->Rr (List PV)}
noncomputable def Qp (xs:List PV):Rr PV:=match xs with
 |[.int n]=>if okR n=true/\n<=1000000 then .ok (.lst ((Vr 0 1 n.toNat).map PV.int)) else .bad
 |[.int a,.int b,.int c]=>if c≠0/\c.natAbs<1073741824/\Builtin.Range.small a b c=true/\0<=Builtin.Range.rangeSize a b c/\Builtin.Range.rangeSize a b c<=1000000 then .ok (.lst ((Vr a c (Builtin.Range.rangeSize a b c).toNat).map PV.int)) else .bad
 |_=>.bad
theorem Zej {n:Int} (h:okR n=true/\n<=1000000):Qp [.int n]=.ok (.lst ((Vr 0 1 n.toNat).map PV.int)):=if_pos h
theorem Zah {S:Addr->Prop}:∀{ns:List Int},Reps K H S (ns.map PV.int) (ns.map V.int)
 |[]=>rfl
 |n::ns=>⟨.int n,ns.map V.int,rfl,rfl,Zah⟩
theorem ZgJ {n:Int}:(Builtin.Range.rangeSize 0 n 1).toNat=n.toNat/\0<=Builtin.Range.rangeSize 0 n 1/\(n<=1000000->Builtin.Range.rangeSize 0 n 1<=1000000):=by
 rw[rangeSize_one]
 split<;>omega
theorem Ze1 (ha:DAA K EX Γ Γ' ta fa):DE K EX Γ Γ' .F (tCB ZaE (VX (tCB Zkz ta) Zbe)) (fun ρ=>(fa ρ).bind Qp):=fun B H0 H σ ρ F R Q A d=>by
 refine ha B H0 H σ ρ F R _ A (d.bind.imp (fun xs _ d vs H1 F1 s1 f1 p1 A1=>?_) fun e q=>q)
 have fin:∀(a b c:Int),Builtin.Range.small a b c=true->0<=Builtin.Range.rangeSize a b c->Builtin.Range.rangeSize a b c<=1000000 ->
   (∀v H',Zw H H'->Res K B H0 H σ Γ' ρ F R .F (.lst ((Vr a c (Builtin.Range.rangeSize a b c).toNat).map PV.int)) v H'->Q v H') ->
   ∀l,H1 l=none->Zbe σ (upd H1 l (Ziw l a b c)) fun us H2=>ZaE (.ref l::us) H2 Q:=fun a b c h1 h2 h3 d l hl=>by
  have e:=Zw.new (H:=H1) (o:=Ziw l a b c) hl
  refine⟨l,a,b,c,rfl,Z2,h1,h2,h3,fun l2 hl2=>d _ _ ((s1.trans e).trans (Zw.new hl2)) (Res.newP (s1.trans e) f1 (S:=fun _=>True) Zah (PV.flats_ints _) (A1.grow e) hl2)⟩
 unfold Qp at d
 split at d
 ·rename_i n _
  split at d
  ·rename_i hc
   obtain⟨v,rfl,p⟩:=UL p1
   cases p
   obtain⟨z1,z2,z3⟩:=ZgJ (n:=n)
   unfold okR at hc
   rw[decide_eq_true_eq] at hc
   refine .inl ⟨n,rfl,fin 0 n 1 (small_one (by decide) (by decide) hc.1.1 hc.1.2) z2 (z3 hc.2) (fun v H' s r=>d v H' s (by rw[z1] at r;exact r))⟩
  ·exact d.elim
 ·rename_i a b c _
  split at d
  ·rename_i hc
   obtain⟨va,r1,rfl,p,vb,r2,rfl,p',vc,r3,rfl,p'',e⟩:=p1
   cases p;cases p';cases p'';cases e
   exact .inr ⟨a,b,c,rfl,hc.1,hc.2.1,fin a b c hc.2.2.1 hc.2.2.2.1 hc.2.2.2.2 d⟩
  ·exact d.elim
 ·exact d.elim
end
section
variable {κ:Type} [DecidableEq κ]
noncomputable def ZeD (kvs:List (κ×V)) (k:κ):Option V:=(kvs.find? fun kv=>decide (kv.1=k)).map (·.2)
noncomputable def Ze8 (kvs:List (κ×V)) (k:κ) (v:V):List (κ×V):=
 if (kvs.any fun kv=>decide (kv.1=k))=true then kvs.map (fun kv=>if kv.1=k then (kv.1,v) else kv) else kvs++[(k,v)]
theorem Qf {p:κ×V}{r:List (κ×V)}{k:κ} (e:p.1=k):ZeD (p::r) k=some p.2:=by simp[ZeD,Zuj,e]
theorem Qg {p:κ×V}{r:List (κ×V)}{k:κ} (e:¬p.1=k):ZeD (p::r) k=ZeD r k:=by simp[ZeD,Zuj,e]
theorem Zda (k:κ):∀kvs:List (κ×V),(kvs.any fun kv=>decide (kv.1=k))=(ZeD kvs k).isSome
 |[]=>rfl
 |p::r=>by
  rw[Zul]
  by_cases e:p.1=k
  ·simp only[Qf e,decide_eq_true e,Bool.true_or,Option.isSome_some]
  ·rw[Qg e,decide_eq_false e,Bool.false_or];exact Zda k r
theorem QL (kvs:List (κ×V)) (k:κ) (v:V):(Ze8 kvs k v).length<=kvs.length+1:=by
 unfold Ze8
 split
 ·rw[ZsV];omega
 ·rw[Zt7,Ztl,Zuu];omega
theorem Zg9.isSome_eq {o:Option V}{u:Option Value} (r:Zg9 o u):o.isSome=u.isSome:=by
 cases o with
 |none=>cases u with
  |none=>rfl
  |some _=>exact(show False from r).elim
 |some _=>cases u with
  |none=>exact(show False from r).elim
  |some _=>rfl
theorem KV.val {kvs:List (κ×V)}{vs:List (κ×Value)} (r:KV kvs vs) (k:κ):Zg9 (ZeD kvs k) (valueAt vs k):=by
 unfold KV at r
 induction r with
 |nil=>exact True.intro
 |@cons p q ps qs h t ih =>
  obtain⟨h1,h2⟩:=h
  by_cases e:p.1=k
  ·have e':q.1=k:=h1.symm.trans e
   have b:valueAt (q::qs) k=some q.2:=by simp[valueAt,Zuj,e']
   rw[Qf e,b];exact h2
  ·have e':¬q.1=k:=fun z=>e (h1.trans z)
   have b:valueAt (q::qs) k=valueAt qs k:=by simp[valueAt,Zuj,e']
   rw[Qg e,b];exact ih
theorem KV.any {kvs:List (κ×V)}{vs:List (κ×Value)} (r:KV kvs vs) (k:κ):(kvs.any fun kv=>decide (kv.1=k))=vs.any fun kv=>decide (kv.1=k):=by
 unfold KV at r
 induction r with
 |nil=>rfl
 |cons h t ih=>rw[Zul,Zul,ih,h.1]
theorem KV.repl {kvs:List (κ×V)}{vs:List (κ×Value)} (r:KV kvs vs) (k:κ) {y:V}{u:Value} (ry:Jo y u) :
  KV (kvs.map fun kv=>if kv.1=k then (kv.1,y) else kv) (vs.map fun kv=>if kv.1=k then (kv.1,u) else kv):=by
 unfold KV at r ⊢
 induction r with
 |nil=>exact .nil
 |@cons p q ps qs h t ih =>
  rw[Ztg,Ztg]
  refine .cons ?_ ih
  obtain⟨h1,h2⟩:=h
  by_cases e:p.1=k
  ·rw[if_pos e,if_pos (h1.symm.trans e)];exact⟨h1,ry⟩
  ·rw[if_neg e,if_neg (fun z=>e (h1.trans z))];exact⟨h1,h2⟩
theorem KV.put {kvs:List (κ×V)}{vs:List (κ×Value)} (r:KV kvs vs) (k:κ) {y:V}{u:Value} (ry:Jo y u):KV (Ze8 kvs k y) (stored vs k u):=by
 unfold Ze8 stored
 rw[r.any k]
 by_cases e:(vs.any fun kv=>decide (kv.1=k))=true
 ·rw[if_pos e,if_pos e];exact r.repl k ry
 ·rw[if_neg e,if_neg e];exact Paired.snoc r ⟨rfl,ry⟩
theorem KV.length {kvs:List (κ×V)}{vs:List (κ×Value)} (r:KV kvs vs):kvs.length=vs.length:=Paired.length r
end
theorem Zhr {P:Program}{w:World}{k:Key}{u:Value} (r:Jo (kV k) u):(Jx P w).is k u=true:=by
 cases k with
 |inl i=>obtain⟨t,e⟩:=(show ∃t,u=Value.int i t from r);subst e;exact Zcr P w i t
 |inr x=>obtain⟨t,e⟩:=(show ∃t,u=Value.str x t from r);subst e;exact Zcq P w x t
theorem ZbB {P:Program}{w:World}:∀{ks:List Key}{us:List Value},ZX (ks.map kV) us->ItemsAre (Jx P w) ks us
 |[],_,r=>by rw[ZuQ] at r;cases r;exact .nil
 |k::ks,_,r=>by
  rw[Ztg] at r
  cases r with
  |cons h t=>exact .cons (Zhr h) (ZbB t)
noncomputable abbrev KT (H:Hp):List (List Key×V)->List (List Key×Addr×Value)->Prop:=Paired fun p q=>p.1=q.1/\H q.2.1=some (.tup (p.1.map kV))/\Jo p.2 q.2.2
theorem KT.val {H:Hp}{kvs:List (List Key×V)}{xs:List (List Key×Addr×Value)} (r:KT H kvs xs) (k:List Key):Zg9 (ZeD kvs k) ((atKey xs k).map (·.2)):=by
 induction r with
 |nil=>exact True.intro
 |@cons p q ps qs h t ih =>
  obtain⟨h1,_,h2⟩:=h
  by_cases e:p.1=k
  ·have e':q.1=k:=h1.symm.trans e
   have b:atKey (q::qs) k=some q.2:=by simp[atKey,Zuj,e']
   rw[Qf e,b];exact h2
  ·have e':¬q.1=k:=fun z=>e (h1.trans z)
   have b:atKey (q::qs) k=atKey qs k:=by simp[atKey,Zuj,e']
   rw[Qg e,b];exact ih
theorem KT.repl {H:Hp}{kvs:List (List Key×V)}{xs:List (List Key×Addr×Value)} (r:KT H kvs xs) (k:List Key) {y:V}{u:Value} (ry:Jo y u) :
  KT H (kvs.map fun kv=>if kv.1=k then (kv.1,y) else kv) (xs.map (putAt k u)):=by
 induction r with
 |nil=>exact .nil
 |@cons p q ps qs h t ih =>
  rw[Ztg,Ztg]
  refine .cons ?_ ih
  obtain⟨h1,h2,h3⟩:=h
  unfold putAt
  by_cases e:p.1=k
  ·rw[if_pos e,if_pos (h1.symm.trans e)];exact⟨h1,h2,ry⟩
  ·rw[if_neg e,if_neg (fun z=>e (h1.trans z))];exact⟨h1,h2,h3⟩
theorem KT.put {H:Hp}{kvs:List (List Key×V)}{xs:List (List Key×Addr×Value)} (r:KT H kvs xs) (k:List Key) {b:Addr}{y:V}{u:Value} (hb:H b=some (.tup (k.map kV))) (ry:Jo y u) :
  KT H (Ze8 kvs k y) (storedH xs k b u):=by
 have e:(kvs.any fun kv=>decide (kv.1=k))=(atKey xs k).isSome:=by
  rw[Zda,(r.val k).isSome_eq,Option.isSome_map]
 unfold Ze8 storedH
 rw[e]
 by_cases q:(atKey xs k).isSome=true
 ·rw[if_pos q,if_pos q];exact r.repl k ry
 ·rw[if_neg q,if_neg q];exact Paired.snoc r ⟨rfl,hb,ry⟩
theorem KT.keeps {H H':Hp}{kvs:List (List Key×V)}{xs:List (List Key×Addr×Value)} (r:KT H kvs xs) (ht:∀b ys,H b=some (.tup ys)->H' b=some (.tup ys)):KT H' kvs xs:=
 Paired.mapP r fun _ _ z=>⟨z.1,ht _ _ z.2.1,z.2.2⟩
section
variable {P:Program}{w:World}{H:Hp}{h:Heap}{a:Addr}
theorem Zky {u:HO} (ok:HOk P w H h) (e:Rd H a u):JI P w H h a u:=e.ok ok
theorem ZhA {kvs:List (Key×V)} (ok:HOk P w H h) (e:Rd H a (.dK kvs)):kvs.length<=sizeLine/\(a==sysModules)=false/\∃vs,KV kvs vs/\h.DictOf (Jx P w) a vs:=
 show JI P w H h a (.dK kvs) from Zky ok e
theorem Zm6 {kvs:List (Key×V)} (ok:HOk P w H h) (e:H a=some (.dK kvs)):kvs.length<=sizeLine/\(a==sysModules)=false/\∃vs,KV kvs vs/\h.DictOf (Jx P w) a vs:=ZhA ok (.inl e)
theorem Zb7 {ks:List Key} (ok:HOk P w H h) (e:H a=some (.tup (ks.map kV))):(tupleKind (Jx P w)).is h ks a:=by
 obtain⟨_,its,r,o,h1,h2,n,h3⟩:=(show JI P w H h a (.tup (ks.map kV)) from ok a _ e)
 exact⟨o,its.toArray,n,h1,h2,h3,by simpa using ZbB r⟩
theorem Zh7 {kvs:List (List Key×V)} (ok:HOk P w H h) (e:Rd H a (.dT kvs)):kvs.length<=sizeLine/\(a==sysModules)=false /\
  ∃xs,KT H kvs xs/\h.DictOfH (tupleKind (Jx P w)) a xs:=by
 obtain⟨z,y,xs,r,o,es,ep,h1,h2,h3,h4,h5⟩:=(show JI P w H h a (.dT kvs) from Zky ok e)
 refine⟨z,y,xs,r,o,es,ep,h1,h2,h3,h4,fun x hx=>?_,h5⟩
 have all:∀{l:List (List Key×V)}{m:List (List Key×Addr×Value)},KT H l m->∀x∈m,(tupleKind (Jx P w)).is h x.1 x.2.1:=by
  intro l m q
  induction q with
  |nil=>intro x hx;exact nomatch hx
  |@cons p q ps qs hq t ih =>
   intro x hx
   rcases ZsZ.mp hx with e|hx
   ·subst e
    exact Zb7 ok (by rw[<- hq.1];exact hq.2.1)
   ·exact ih x hx
 exact all r x hx
theorem Zlv {kvs:List (List Key×V)} (ok:HOk P w H h) (e:H a=some (.dT kvs)):kvs.length<=sizeLine/\(a==sysModules)=false /\
  ∃xs,KT H kvs xs/\h.DictOfH (tupleKind (Jx P w)) a xs:=Zh7 ok (.inl e)
end
def ZjY (H:Hp) (a:Addr) (y:V) (r:Option V):Prop:=
 (∃kvs k,Rd H a (.dK kvs)/\y=kV k/\r=ZeD kvs k)\/∃kvs k b,Rd H a (.dT kvs)/\y=.ref b/\H b=some (.tup (k.map kV))/\r=ZeD kvs k
def Zne (H:Hp) (a:Addr) (y v:V) (H':Hp):Prop:=
 (∃kvs k,H a=some (.dK kvs)/\y=kV k/\kvs.length<sizeLine/\H'=upd H a (.dK (Ze8 kvs k v))) \/
 ∃kvs k b,H a=some (.dT kvs)/\y=.ref b/\H b=some (.tup (k.map kV))/\kvs.length<sizeLine/\H'=upd H a (.dT (Ze8 kvs k v))
section
variable {X:Cx}{pins:List (Addr×Obj)}{σ:St}{H:Hp}{s:Shared}{a:Addr}{y v:V}{u r:Value}{o:Option V}{A:Around}{E:Value->Shared->Prop}
theorem Inv.big (I:Inv X pins σ H s):sysModules<s.heap.objs.size:=by
 have h:mainGlobals<s.heap.objs.size:=(I.mod.glob.keeps I.bk).lt
 exact Nat.lt_trans (by decide) h
theorem Zgl {Q:Value->Shared->Prop} (hu:A.units+1<cLine) (I:Inv X pins σ H s) (g:ZjY H a y (some v)) (ry:Jo y u) (h:∀w' s',Inv X pins σ H s'->Jo v w'->Q w' s') :
  wpAny (model X.prog X.w) A (getItem (.ref a) u) Q E s:=by
 rcases g with ⟨kvs,k,e,ey,l⟩|⟨kvs,k,b,e,ey,eb,l⟩
 ·subst ey
  obtain⟨z,hd,vs,rel,dd⟩:=ZhA I.hok e
  obtain⟨w',hw,rw'⟩:=Zg9.some_of (v:=v) (o:=valueAt vs k) (by rw[l];exact rel.val k)
  exact wpAny_getItem_of (Zhr ry) dd.mapOf hw (h w' _ (I.tok _) rw')
 ·subst ey
  cases (show u=Value.ref b from ry)
  obtain⟨z,hd,xs,rel,dd⟩:=Zh7 I.hok e
  obtain⟨w',hw,rw'⟩:=Zg9.some_of (v:=v) (o:=(atKey xs k).map (·.2)) (by rw[l];exact rel.val k)
  obtain⟨p,hp,hp2⟩:=Zt1.mp hw
  refine wpAny_getItem_heap (tupleKind_room_in1 hu) (Zb7 I.hok eb) dd hp ?_
  rw[hp2]
  exact h w' _ (I.tok _) rw'
theorem ZjD {Q:Value->Shared->Prop} (hu:A.units+1<cLine) (I:Inv X pins σ H s) (g:ZjY H a y o) (ry:Jo y u) (h:∀s',Inv X pins σ H s'->Q (.bool (!o.isSome)) s') :
  wpAny (model X.prog X.w) A (compareOp .NotIn u (.ref a)) Q E s:=by
 rcases g with ⟨kvs,k,e,ey,l⟩|⟨kvs,k,b,e,ey,eb,l⟩
 ·subst ey
  obtain⟨z,hd,vs,rel,dd⟩:=ZhA I.hok e
  refine wpAny_notIn_of (Zhr ry) hd dd.mapOf ?_
  rw[<- (rel.val k).isSome_eq,<- l]
  exact h _ (I.tok _)
 ·subst ey
  cases (show u=Value.ref b from ry)
  obtain⟨z,hd,xs,rel,dd⟩:=Zh7 I.hok e
  refine wpAny_notIn_heap (tupleKind_room_in1 hu) (Zb7 I.hok eb) hd dd ?_
  have q:=(rel.val k).isSome_eq
  rw[Option.isSome_map] at q
  rw[<- q,<- l]
  exact h _ (I.tok _)
theorem ZcE {h':Heap}{t':Nat}{ob:HO} (I:Inv X pins σ H s) (mu:Mut (H a)) (hs:Heap.SameBut a s.heap h') (he:∃q,h'.get? a=some q) (new:JI X.prog X.w (upd H a ob) h' a ob) :
  Inv X pins σ (upd H a ob) { s with heap:=h',toks:=t' }:=
 I.write (x:=a) (e:=a) mu (.inl rfl) (fun b q hb z=>(hs.2 b hb).trans z) he new
theorem Zlx {P:Program}{w:World}{H':Hp}{h':Heap}{kvs:List (Key×V)}{vs:List (Key×Value)} (z:kvs.length<=sizeLine) (hd:(a==sysModules)=false) (rel:KV kvs vs) (dd:h'.DictOf (Jx P w) a vs) :
  JI P w H' h' a (.dK kvs):=⟨z,hd,vs,rel,dd⟩
theorem Zgk {H':Hp}{Q:Unit->Shared->Prop} (hu:A.units+1<cLine) (I:Inv X pins σ H s) (g:Zne H a y v H') (ry:Jo y u) (rv:Jo v r) (h:∀s',Inv X pins σ H' s'->Q () s') :
  wpAny (model X.prog X.w) A (setItem (.ref a) u r) Q E s:=by
 rcases g with ⟨kvs,k,e,ey,l,eH⟩|⟨kvs,k,b,e,ey,eb,l,eH⟩
 ·subst ey eH
  obtain⟨z,hd,vs,rel,dd⟩:=Zm6 I.hok e
  have hz:vs.length<=sizeLine:=by rw[<- rel.length];exact z
  have hl:(Ze8 kvs k v).length<=sizeLine:=by have:=QL kvs k v;omega
  refine wpAny_setItem_pairs (hsz:=hz) (Zhr ry) dd fun h' dd' hs=>h _ ?_
  have he:∃q,h'.get? a=some q:=let ⟨q,_,_,hq,_⟩:=dd';⟨q,hq⟩
  exact ZcE I (by rw[e];exact True.intro) hs he (Zlx hl hd (rel.put k rv) dd')
 ·subst ey eH
  cases (show u=Value.ref b from ry)
  obtain⟨z,hd,xs,rel,dd⟩:=Zlv I.hok e
  have hz:xs.length<=sizeLine:=by rw[<- Paired.length rel];exact z
  have hl:(Ze8 kvs k v).length<=sizeLine:=by have:=QL kvs k v;omega
  refine wpAny_setItem_heap (hsz:=hz) (tupleKind_room_in1 hu) (Zb7 I.hok eb) dd fun h' dd' hs=>h _ ?_
  obtain⟨q,es,ep,hq,h2,h3,h4,_,h5⟩:=dd'
  refine ZcE I (by rw[e];exact True.intro) hs ⟨q,hq⟩ ⟨hl,hd,_,(rel.put k eb rv).keeps fun c ys ec=>?_,q,es,ep,hq,h2,h3,h4,h5⟩
  rw[Zr (Zja ec e (fun z=>nomatch z))]
  exact ec
end
def Znd (i:Expr):Prop:=∀ov iv,subscripted i false ov iv=operate [ov,iv] (getItem ov iv)
theorem ZiA {prog:Program}{w:World}{A:Around}{E:Value->Shared->Prop}{s:Shared}{env:Env}{value slice:Expr}{pos:Pos}{T id:String}{Q:Value->Shared->Prop}
  (hl:typeLookup (.type T) "__getitem__"=pure (some (.builtin id))) (hs:Znd slice)
  (h:wpAny (model prog w) A (eval value env) (fun o s₁=>wpAny (model prog w) A (eval slice env) (fun i s₂=>s₂.TypeIs o T/\wpAny (model prog w) A (getItem o i) Q E s₂) E s₁) E s) :
  wpAny (model prog w) A (eval (.Subscript value slice pos) env) Q E s:=by
 refine Subscript_ (wpAny_mono h (fun o s₁ h₁=>wpAny_mono h₁ (fun i s₂ h₂=>?_) fun _ _ x=>x) fun _ _ x=>x)
 obtain⟨hT,h₂⟩:=h₂
 unfold subscriptTail
 refine wpAny_bind ?_
 rw[getitemInPython_of_ne hT.not_modules]
 refine wpAny_bind (wpAny_specialOf hT hl ?_)
 have fin:wpAny (model prog w) A (subscripted slice false o i) (fun r s₃=>wpAny (model prog w) A (letTemporaryGo value o r >>= fun _=>pure r) Q E s₃) E s₂:=by
  rw[hs o i]
  exact wpAny_operating (wpAny_mono h₂ (fun r s₃ h₃=>wpAny_bind (wpAny_letTemporaryGo (wpAny_pure h₃))) fun _ _ x=>x)
 first
  |exact wpAny_pure (wpAny_bind fin)
  |exact wpAny_bind (wpAny_pure (wpAny_bind fin))
  |exact wpAny_bind fin
theorem ZcB {X:Cx}{pins:List (Addr×Obj)}{σ:St}{H:Hp}{s:Shared}{a:Addr}{y:V}{o:Option V} (I:Inv X pins σ H s) (g:ZjY H a y o):s.TypeIs (.ref a) "dict":=by
 rcases g with ⟨kvs,k,e,_,_⟩|⟨kvs,k,b,e,_,_,_⟩
 ·obtain⟨_,_,vs,_,dd⟩:=ZhA I.hok e
  exact dd.typeIs
 ·obtain⟨_,_,xs,_,dd⟩:=Zh7 I.hok e
  exact dd.typeIs
noncomputable def Zkm (td ty:TE):TE:=fun σ H Q=>td σ H fun x H1=>ty σ H1 fun y H2=>∃a v,x=.ref a/\ZjY H2 a y (some v)/\Q v H2
noncomputable def ZeJ (ty td:TE):TE:=fun σ H Q=>ty σ H fun y H1=>td σ H1 fun x H2=>∃a o,x=.ref a/\ZjY H2 a y o/\Q (.bl (!o.isSome)) H2
noncomputable def Zkv (td ty tv:TE):TS:=fun D σ H=>tv σ H fun v H1=>td σ H1 fun x H2=>ty σ H2 fun y H3=>∃a H4,x=.ref a/\Zne H3 a y v H4/\D.nx σ H4
section
variable {X:Cx}{o i value:Expr}{pos pos':Pos}{td ty tv:TE}
theorem Zfh (hu:X.A.units+1<cLine) (ho:PE X o td) (hi:PE X i ty) (hs:Znd i):PE X (.Subscript o i pos) (Zkm td ty):=by
 intro pins s σ H Q I h
 refine ZiA PySem.F.slot_dict_getitem.lookup hs (thn (ho pins s σ H _ I h) fun u s1 ⟨x,H1,I1,rx,q1⟩=>thn (hi pins s1 σ H1 _ I1 q1) fun iv s2 ⟨y,H2,I2,ry,a,v,ex,g,q2⟩=>?_)
 subst ex
 obtain rfl:u=Value.ref a:=rx
 exact⟨ZcB I2 g,Zgl hu I2 g ry fun w' s3 I3 rw'=>⟨v,H2,I3,rw',q2⟩⟩
theorem QD (hu:X.A.units+1<cLine) (hi:PE X i ty) (ho:PE X o td):PC X .NotIn i o (ZeJ ty td):=by
 intro pins s σ H Q I h
 refine thn (hi pins s σ H _ I h) fun iv s1 ⟨y,H1,I1,ry,q1⟩=>thn (ho pins s1 σ H1 _ I1 q1) fun u s2 ⟨x,H2,I2,rx,a,ov,ex,g,q2⟩=>?_
 subst ex
 obtain rfl:u=Value.ref a:=rx
 exact ZjD hu I2 g ry fun s3 I3=>⟨.bl (!ov.isSome),H2,I3,rfl,q2⟩
theorem Zfe (hu:X.A.units+1<cLine) (ho:PE X o td) (hi:PE X i ty) (hv:PE X value tv) (hs:swapsWith value (some (.Subscript o i pos')) pos.line X.env=pure false) :
  PS X (.Assign [.Subscript o i pos'] value pos) (Zkv td ty tv):=by
 intro pins s σ H D I h
 refine wpAny_Assign_Subscript (thn (hv pins s σ H _ I h) fun r s1 ⟨v,H1,I1,rv,q1⟩=>thn (ho pins s1 σ H1 _ I1 q1) fun u s2 ⟨x,H2,I2,rx,q2⟩=>thn (hi pins s2 σ H2 _ I2 q2) fun iv s3 ⟨y,H3,I3,ry,a,H4,ex,g,q3⟩=>?_) hs
 subst ex
 obtain rfl:u=Value.ref a:=rx
 exact Zgk hu I3 g ry rv fun s4 I4=>⟨σ,H4,I4,q3⟩
end
theorem Zh8 {P:Program}{w:World}{H:Hp} (h:Heap) (hb:sysModules<h.objs.size):JI P w H (h.push { cls:=.type "dict",data:=.dict #[] }) h.objs.size (.dT []):=
 ⟨Ztp _,beq_eq_false_iff_ne.mpr (Ne.symm (Zt5 hb)),[],.nil,_,#[],0,Heap.get?_push_size _ rfl,⟨rfl,rfl,rfl⟩,rfl,rfl,List.nodup_nil⟩
section
end
noncomputable def Zdf:List (TE×TE)->St->Hp->(List (V×V)->Hp->Prop)->Prop
 |[],_,H,Q=>Q [] H
 |(tk,tv)::r,σ,H,Q=>tk σ H fun x H1=>tv σ H1 fun y H2=>Zdf r σ H2 fun ps H3=>Q ((x,y)::ps) H3
noncomputable abbrev VV:List (V×V)->List (Value×Value)->Prop:=Paired fun p q=>Jo p.1 q.1/\Jo p.2 q.2
def PPs (X:Cx) (pos:Pos) (keys:List (Option Expr)) (values:List Expr) (trs:List (TE×TE)):Prop:=
 ∀(pins:List (Addr×Obj)) (s:Shared) (σ:St) (H:Hp) (Q:List (V×V)->Hp->Prop),Inv X pins σ H s->Zdf trs σ H Q ->
  wpAny (model X.prog X.w) X.A (evalPairs (pairTrees keys values X.env pos)) (fun vs s'=>∃ps H',Inv X pins σ H' s'/\VV ps vs/\Q ps H') X.xe s
theorem ZiK {X:Cx}{pos:Pos}:PPs X pos [] [] []:=fun pins s σ H Q I h=>pairTrees_nil_walk ⟨[],H,I,.nil,h⟩
theorem ZgR {X:Cx}{pos:Pos}{k v:Expr}{ks:List (Option Expr)}{vs:List Expr}{tk tv:TE}{trs:List (TE×TE)} (hk:PE X k tk) (hv:PE X v tv) (hr:PPs X pos ks vs trs) :
  PPs X pos (some k::ks) (v::vs) ((tk,tv)::trs):=fun pins s σ H Q I h =>
 pairTrees_cons_walk (thn (hk pins s σ H _ I h) fun u s1 ⟨x,H1,I1,rx,q1⟩=>thn (hv pins s1 σ H1 _ I1 q1) fun w2 s2 ⟨y,H2,I2,ry,q2⟩ =>
  thn (hr pins s2 σ H2 _ I2 q2) fun ws s3 ⟨ps,H3,I3,rel,q3⟩=>⟨(x,y)::ps,H3,I3,.cons ⟨rx,ry⟩ rel,q3⟩)
section
end
noncomputable def Zji:Key->PV
 |.inl i=>.int i
 |.inr x=>.str x
noncomputable def Zet:PV->Option Key
 |.int i=>some (.inl i)
 |.str x=>some (.inr x)
 |_=>none
noncomputable def U5:List PV->Option (List Key)
 |[]=>some []
 |x::xs=>match Zet x,U5 xs with
  |some k,some ks=>some (k::ks)
  |_,_=>none
theorem ZaQ {x:PV}{k:Key} (h:Zet x=some k):x=Zji k:=by
 cases x<;>first|(cases h;rfl)|cases h
theorem U4:∀{xs:List PV}{ks:List Key},U5 xs=some ks->xs=ks.map Zji
 |[],ks,h=>by cases h;rfl
 |x::xs,ks,h=>by
  unfold U5 at h
  split at h
  ·rename_i k ks' h1 h2
   cases h
   rw[ZaQ h1,U4 h2];rfl
  ·cases h
@[simp] theorem ZjV (k:Key):Zet (Zji k)=some k:=by cases k<;>rfl
@[simp] theorem VR:∀ks:List Key,U5 (ks.map Zji)=some ks
 |[]=>rfl
 |k::ks=>by simp[U5,VR ks]
section
variable {K:W.Frag}{H:Hp}{S:Addr->Prop}
theorem Zcj {k:Key}{v:V} (h:Rep K H S (Zji k) v):v=kV k:=by cases k<;>exact h
theorem Ux:∀{ks:List Key}{vs:List V},Reps K H S (ks.map Zji) vs->vs=ks.map kV
 |[],_,h=>h
 |k::ks,_,h=>by
  obtain⟨v,r,rfl,h1,h2⟩:=h
  rw[Zcj h1,Ux h2];rfl
end
section
variable {κ:Type} [DecidableEq κ] {α:Type}
noncomputable def atK:List κ->List α->κ->Option α
 |k'::ks,x::xs,k=>if k'=k then some x else atK ks xs k
 |_,_,_=>none
noncomputable def ZgL:List κ->List α->κ->α->List α
 |k'::ks,x::xs,k,y=>(if k'=k then y else x)::ZgL ks xs k y
 |_,_,_,_=>[]
noncomputable def Zm2 (k:κ) (ks:List κ):Bool:=decide (k∈ks)
theorem Zf7 {k:κ}{ks:List κ} (h:Zm2 k ks=false):k ∉ ks:=of_decide_eq_false h
noncomputable def QZ (ks:List κ) (k:κ):List κ:=if k∈ks then ks else ks++[k]
noncomputable def UN (ks:List κ) (xs:List α) (k:κ) (y:α):List α:=if k∈ks then ZgL ks xs k y else xs++[y]
theorem Zdk:∀{ks:List κ}{xs:List α}{k:κ}{y:α},ks.length=xs.length->(ZgL ks xs k y).length=ks.length
 |[],[],_,_,_=>rfl
 |k'::ks,x::xs,k,y,h=>by simp[ZgL,Zdk (ks:=ks) (xs:=xs) (k:=k) (y:=y) (by simpa using h)]
 |[],_::_,_,_,h=>by simp at h
 |_::_,[],_,_,h=>by simp at h
theorem Zfc {ks:List κ}{xs:List α}{k:κ}{y:α} (h:ks.length=xs.length):(QZ ks k).length=(UN ks xs k y).length:=by
 unfold QZ UN
 split
 ·rw[Zdk h]
 ·simp[h]
theorem Za5:∀{ks:List κ}{vs:List V}{k:κ},ks.length=vs.length->ZeD (ks.zip vs) k=atK ks vs k
 |[],[],_,_=>rfl
 |k'::ks,v::vs,k,h=>by
  rw[Zuv]
  unfold atK
  by_cases e:k'=k
  ·rw[Qf e,if_pos e]
  ·rw[Qg e,if_neg e,Za5 (by simpa using h)]
 |[],_::_,_,h=>by simp at h
 |_::_,[],_,h=>by simp at h
theorem ZcQ:∀{ks:List κ}{vs:List V}{k:κ},ks.length=vs.length->(((ks.zip vs).any fun kv=>decide (kv.1=k))=true ↔ k∈ks)
 |[],[],_,_=>by simp
 |k'::ks,v::vs,k,h=>by
  rw[Zuv,Zul,Bool.or_eq_true,ZcQ (by simpa using h),ZsZ,decide_eq_true_eq]
  exact⟨fun z=>z.imp Eq.symm id,fun z=>z.imp Eq.symm id⟩
 |[],_::_,_,h=>by simp at h
 |_::_,[],_,h=>by simp at h
theorem ZeR:∀{ks:List κ}{vs:List V}{k:κ}{y:V},ks.length=vs.length->((ks.zip vs).map fun kv=>if kv.1=k then (kv.1,y) else kv)=ks.zip (ZgL ks vs k y)
 |[],[],_,_,_=>rfl
 |k'::ks,v::vs,k,y,h=>by
  rw[Zuv,Ztg,ZeR (by simpa using h)]
  show _=(k'::ks).zip ((if k'=k then y else v)::ZgL ks vs k y)
  by_cases e:k'=k
  ·rw[if_pos e,if_pos e];rfl
  ·rw[if_neg e,if_neg e];rfl
 |[],_::_,_,_,h=>by simp at h
 |_::_,[],_,_,h=>by simp at h
theorem Zdq {ks:List κ}{vs:List V}{k:κ}{y:V} (h:ks.length=vs.length):Ze8 (ks.zip vs) k y=(QZ ks k).zip (UN ks vs k y):=by
 unfold Ze8 QZ UN
 by_cases c:k∈ks
 ·rw[if_pos ((ZcQ h).mpr c),if_pos c,if_pos c,ZeR h]
 ·rw[if_neg (fun z=>c ((ZcQ h).mp z)),if_neg c,if_neg c,List.zip_append h];rfl
end
section
variable {κ:Type} [DecidableEq κ] {K:W.Frag}{H:Hp}{S:Addr->Prop}
theorem Zdn:∀{ks:List κ}{xs:List PV}{vs:List V}{k:κ},Reps K H S xs vs->match atK ks xs k with
  |some y=>∃v,atK ks vs k=some v/\Rep K H S y v
  |none=>atK ks vs k=none
 |[],xs,vs,k,h=>by simp[atK]
 |k'::ks,[],vs,k,h=>by rw[h];simp[atK]
 |k'::ks,x::xs,vs,k,h=>by
  obtain⟨v,r,rfl,h1,h2⟩:=h
  unfold atK
  by_cases e:k'=k
  ·rw[if_pos e,if_pos e];exact⟨v,rfl,h1⟩
  ·rw[if_neg e,if_neg e];exact Zdn h2
theorem Zae:∀{ks:List κ}{xs:List PV}{vs:List V}{G:List Addr}{k:κ}{y:PV}{w:V},ks.length=xs.length->Trees K H xs vs G->ZW K H y w []->∃G',(∀a∈G',a∈G)/\Trees K H (ZgL ks xs k y) (ZgL ks vs k w) G'
 |[],[],vs,G,k,y,w,_,h,_=>⟨[],by simp,by rw[h.1];exact⟨rfl,rfl⟩⟩
 |k'::ks,x::xs,vs,G,k,y,w,hl,h,hy=>by
  obtain⟨v,r,G1,G2,rfl,h1,h2,h3,rfl⟩:=h
  obtain⟨G',g1,g2⟩:=Zae (ks:=ks) (k:=k) (y:=y) (w:=w) (by simpa using hl) h2 hy
  unfold ZgL
  by_cases e:k'=k
  ·rw[if_pos e,if_pos e]
   exact⟨G',fun a ha=>ZsT _ (g1 a ha),w,_,[],G',rfl,hy,g2,by simp,rfl⟩
  ·rw[if_neg e,if_neg e]
   refine⟨G1++G',fun a ha=>?_,v,_,G1,G',rfl,h1,g2,fun a ha z=>h3 a ha (g1 a z),rfl⟩
   rcases ZsS.mp ha with z|z
   ·exact ZsW _ z
   ·exact ZsT _ (g1 a z)
 |[],_::_,_,_,_,_,_,hl,_,_=>by simp at hl
 |_::_,[],_,_,_,_,_,hl,_,_=>by simp at hl
theorem ZW.flatG {x:PV}{v:V}{G:List Addr} (f:x.flat=true) (h:ZW K H x v G):ZW K H x v []:=Rep.tree f (h.rep (S:=fun _=>True) fun _ _=>trivial)
end
section
variable {K:W.Frag}{B:Addr->Prop}{EX:PX->Hp->Prop}{H0 H H':Hp}{σ:St}{Γ Γ1 Γ2 Γ3:List Md}{ρ:List PV}{F F':Nat->List Addr}{R:List Addr}{ta tb:TE}{f fa fb:List PV->Rr PV}{k:Kd}
noncomputable def dAt (x y:PV):Option (Option PV):=match x,y with
 |.box _ (.dk ks) xs,y=>(Zet y).map fun k=>atK ks xs k
 |.box _ (.dt ks) xs,.tup ys=>(U5 ys).map fun k=>atK ks xs k
 |_,_=>none
noncomputable def ZlT (g:Bool->Bool) (y x:PV):Rr PV:=match dAt x y with
 |some o=>.ok (.bl (g o.isSome))
 |none=>.bad
noncomputable def Zhe (x y:PV):Rr PV:=match dAt x y with
 |some (some z)=>.ok z
 |_=>.bad
theorem Zgm {x y:PV}{v w:V}{o:Option PV}{S:Addr->Prop} (hx:Rep K H S x v) (hy:Rep K H (fun _=>True) y w) (e:dAt x y=some o) :
  ∃a r,v=.ref a/\ZjY H a w r/\r.isSome=o.isSome/\∀z,o=some z->∃u,r=some u/\Rep K H S z u:=by
 have fin:∀{κ:Type} [DecidableEq κ] {ks:List κ}{xs:List PV}{vs:List V}{k:κ},Reps K H S xs vs->o=atK ks xs k->(atK ks vs k).isSome=o.isSome/\∀z,o=some z->∃u,atK ks vs k=some u/\Rep K H S z u:=fun {κ} _ {ks xs vs k} h e=>by
  have:=Zdn (ks:=ks) (k:=k) h
  rw[<- e] at this
  cases o with
  |none=>exact⟨by rw[this];rfl,fun z q=>by cases q⟩
  |some z =>
   obtain⟨u,e1,e2⟩:=this
   exact⟨by rw[e1];rfl,fun z' q=>by cases q;exact⟨u,e1,e2⟩⟩
 unfold dAt at e
 split at e
 ·rename_i p ks xs
  obtain⟨a,vs,u,rfl,hr,⟨_,hl,rfl⟩,hxs⟩:=hx
  cases ek:Zet y with
  |none=>rw[ek] at e;cases e
  |some k =>
   rw[ek] at e
   cases e
   rw[ZaQ ek] at hy
   obtain⟨g1,g2⟩:=fin (ks:=ks) (k:=k) hxs rfl
   exact⟨a,atK ks vs k,rfl,.inl ⟨_,k,hr.1,Zcj hy,(Za5 hl).symm⟩,g1,g2⟩
 ·rename_i p ks xs ys
  obtain⟨a,vs,u,rfl,hr,⟨_,hl,rfl⟩,hxs⟩:=hx
  cases ek:U5 ys with
  |none=>rw[ek] at e;cases e
  |some k =>
   rw[ek] at e
   cases e
   rw[U4 ek] at hy
   obtain⟨b,ws,rfl,hb,hws⟩:=hy
   rw[Ux hws] at hb
   obtain⟨g1,g2⟩:=fin (ks:=ks) (k:=k) hxs rfl
   exact⟨a,atK ks vs k,rfl,.inr ⟨_,k,b,hr.1,rfl,hb.1,(Za5 hl).symm⟩,g1,g2⟩
 ·cases e
theorem QT (ha:DE K EX Γ Γ1 .A ta fa) (hb:DE K EX Γ1 Γ2 .A tb fb):DE K EX Γ Γ2 .P (ZeJ ta tb) (fun ρ=>(fa ρ).bind fun y=>(fb ρ).bind fun x=>ZlT (!·) y x):=fun B H0 H σ ρ F R Q A d=>by
 refine two ha hb A d.bind2 fun y x w v H' F' d s f py px A'=>?_
 unfold ZlT at d
 cases e:dAt x y with
 |none=>rw[e] at d;exact d.elim
 |some o =>
  rw[e] at d
  obtain⟨a,r,rfl,g1,g2,_⟩:=Zgm px py e
  exact⟨a,r,rfl,g1,by rw[g2];exact d _ _ s ⟨F',f,rfl,rfl,A'⟩⟩
theorem Zgg (ha:DE K EX Γ Γ1 .A ta fa) (hb:DE K EX Γ1 Γ2 .A tb fb):DE K EX Γ Γ2 .A (Zkm ta tb) (fun ρ=>(fa ρ).bind fun x=>(fb ρ).bind fun y=>Zhe x y):=fun B H0 H σ ρ F R Q A d=>by
 refine two ha hb A d.bind2 fun x y v w H' F' d s f px py A'=>?_
 unfold Zhe at d
 cases e:dAt x y with
 |none=>rw[e] at d;exact d.elim
 |some o =>
  rw[e] at d
  cases o with
  |none=>exact d.elim
  |some z =>
   obtain⟨a,r,rfl,g1,_,g3⟩:=Zgm px py e
   obtain⟨u,rfl,hu⟩:=g3 z rfl
   exact⟨a,u,rfl,g1,d _ _ s ⟨F',f,hu,A'⟩⟩
noncomputable def Zhd (x y z:PV):Rr PV:=match x,y with
 |.box p (.dk ks) xs,y=>match Zet y with
  |some k=>if xs.length<1000000/\(Zm2 k ks=false\/z.flat=true) then .ok (.box p (.dk (QZ ks k)) (UN ks xs k z)) else .bad
  |none=>.bad
 |.box p (.dt ks) xs,.tup ys=>match U5 ys with
  |some k=>if xs.length<1000000/\(Zm2 k ks=false\/z.flat=true) then .ok (.box p (.dt (QZ ks k)) (UN ks xs k z)) else .bad
  |none=>.bad
 |_,_=>.bad
theorem Zbk {κ:Type} [DecidableEq κ] {ks:List κ}{xs:List PV}{vs:List V}{k:κ}{y:PV}{w:V}{G G2:List Addr} (hl:ks.length=xs.length) (h:Trees K H xs vs G) (hy:ZW K H y w G2) (hd:∀a∈G,a ∉ G2) (hk:k∈ks->y.flat=true) :
  ∃G',(∀a∈G',a∈G\/a∈G2)/\Trees K H (UN ks xs k y) (UN ks vs k w) G':=by
 unfold UN
 by_cases c:k∈ks
 ·rw[if_pos c,if_pos c]
  obtain⟨G',g1,g2⟩:=Zae (k:=k) hl h (hy.flatG (hk c))
  exact⟨G',fun a ha=>.inl (g1 a ha),g2⟩
 ·rw[if_neg c,if_neg c]
  exact⟨G++G2,fun a ha=>ZsS.mp ha,Trees.append h (Trees.one hy) hd⟩
theorem ZdJ {i:Nat}{tv:TE}{fv:List PV->Rr PV} (hm:Γ1[i]?=some .O) (hv:DE K EX Γ Γ1 .F tv fv) (hk:DE K EX Γ1 Γ1 .A tb fb) :
  DS K EX Γ ⟨Γ1,Γ2,Γ3,k⟩ (Zkv (QW i) tb tv) (fun ρ=>(fv ρ).thenS fun z=>(fb ρ).thenS fun y=>(Zhd (gv i ρ) y z).thenS fun x=>.next (ρ.set i x)):=fun B H0 H σ ρ F D A d=>by
 refine hv B H0 H σ ρ F [] _ A (d.thenS.imp (fun z _ d w H1 s1 r1=>?_) fun e q=>q)
 obtain⟨F1,f1,G2,t1,o1,A1⟩:=r1
 obtain⟨v,h1,h2⟩:=A1.getO hm
 refine⟨v,h1,hk B H0 H1 σ ρ F1 (G2++[]) _ A1 (d.thenS.imp (fun y _ d yv H2 s2 r2=>?_) fun e q=>q)⟩
 obtain⟨F2,f2,p2,A2⟩:=r2
 obtain⟨v',h1',h2'⟩:=A2.getO hm
 rw[h1] at h1';cases h1'
 have d:=d.thenS
 have t2:=t1.same s2
 have core:∀{p:Option Addr}{s s':Sh}{xs xs':List PV}{a:Addr}{vs vs':List V}{u u':HO}{G G':List Addr},ρ.getD i .non=.box p s xs->H2 a=some u->ZlX p a->Trees K H2 xs vs G->a ∉ G->F2 i=a::G->ZlP K s' vs' u'->Trees K H2 xs' vs' G'->(∀b∈G',b∈G\/b∈G2) ->
   σ[i]?=some (some (.ref a))->DnS K B EX ⟨Γ1,Γ2,Γ3,k⟩ H0 H F D (.next (ρ.set i (.box p s' xs')))->D.nx σ (upd H2 a u'):=fun {p s s' xs xs' a vs vs' u u' G G'} er hH hpn ht hn hF hb ht' hsub hσ d=>by
  have haF:a∈F2 i:=by rw[hF];simp
  have na2:a ∉ G2:=fun z=>A2.disjR i a haF (ZsW _ z)
  have hna:a ∉ G':=fun z=>(hsub a z).elim hn na2
  have hsub2:∀b∈a::G',b∈F2 i\/b∈G2:=fun b hb=>by
   rcases ZsZ.mp hb with rfl|hb
   ·exact .inl haF
   ·rcases hsub b hb with z|z
    ·exact .inl (by rw[hF];simp[z])
    ·exact .inr z
  obtain⟨lv,hlv⟩:=A2.live i a haF
  refine d σ _ (JS F2 i (a::G')) (VH (s1.trans s2) (fun j b hb=>f1 j b (f2 j b hb)) haF fun b hb=>?_) (Ag.chgB hb.lv (G:=G2) (R:=[]) A2 hm haF hsub2 (by simp) ?_)
  ·rcases hsub2 b hb with z|z
   ·exact .inr ⟨i,f1 i b (f2 i b z)⟩
   ·exact(o1 b z).2
  ·exact⟨_,hσ,a,vs',u',G',rfl,Z2,⟨hpn,hb⟩,Trees.putL hlv hna ht',hna,rfl⟩
 unfold Zhd at d
 split at d
 ·rename_i p ks xs er _ _
  rw[show ρ.getD i .non=.box p (.dk ks) xs from er] at h2'
  obtain⟨a,vs,u,G,rfl,hH,⟨hpn,hl,rfl⟩,ht,hn,hF⟩:=h2'
  split at d
  ·rename_i kk ek
   split at d
   ·rename_i hc
    rw[ZaQ ek] at p2
    have hl':ks.length=xs.length:=by rw[hl,ht.length]
    have dj:∀b∈G,b ∉ G2:=fun b hb z=>A2.disjR i b (by rw[hF];simp[hb]) (ZsW _ z)
    obtain⟨G',g1,g2⟩:=Zbk (k:=kk) hl' ht t2 dj (fun c=>hc.2.resolve_left (fun z=>Zf7 z c))
    refine⟨a,_,rfl,.inl ⟨_,kk,hH,Zcj p2, ?_,rfl⟩,core er hH hpn ht hn hF (s':=.dk (QZ ks kk)) (vs':=UN ks vs kk w) ⟨Zfc hl, ?_⟩ g2 g1 h1 d⟩
    ·rw[List.length_zip,hl,Nat.min_self,ht.length];exact Ztc hc.1 (by decide)
    ·rw[Zdq hl]
   ·exact d.elim
  ·exact d.elim
 ·rename_i p ks xs ys er _ _
  rw[show ρ.getD i .non=.box p (.dt ks) xs from er] at h2'
  obtain⟨a,vs,u,G,rfl,hH,⟨hpn,hl,rfl⟩,ht,hn,hF⟩:=h2'
  split at d
  ·rename_i kk ek
   split at d
   ·rename_i hc
    rw[U4 ek] at p2
    obtain⟨b,ws,rfl,hb,hws⟩:=p2
    rw[Ux hws] at hb
    have hl':ks.length=xs.length:=by rw[hl,ht.length]
    have dj:∀b∈G,b ∉ G2:=fun b hb z=>A2.disjR i b (by rw[hF];simp[hb]) (ZsW _ z)
    obtain⟨G',g1,g2⟩:=Zbk (k:=kk) hl' ht t2 dj (fun c=>hc.2.resolve_left (fun z=>Zf7 z c))
    refine⟨a,_,rfl,.inr ⟨_,kk,b,hH,rfl,hb.1, ?_,rfl⟩,core er hH hpn ht hn hF (s':=.dt (QZ ks kk)) (vs':=UN ks vs kk w) ⟨Zfc hl, ?_⟩ g2 g1 h1 d⟩
    ·rw[List.length_zip,hl,Nat.min_self,ht.length];exact Ztc hc.1 (by decide)
    ·rw[Zdq hl]
   ·exact d.elim
  ·exact d.elim
 ·exact d.elim
end
noncomputable def ZeI (tk tv:TE):TE:=fun σ H Q=>∀p,H p=none->tk σ (upd H p (.dT [])) fun x H1=>tv σ H1 fun y H2=>∃b k,x=.ref b/\H2 b=some (.tup (k.map kV))/\H2 p=some (.dT [])/\Q (.ref p) (upd H2 p (.dT [(k,y)]))
theorem Zbv {X:Cx}{pos:Pos}{e v:Expr}{tk tv:TE} (hu:X.A.units+1<cLine) (hk:PE X e tk) (hv:PE X v tv):PE X (.Dict [some e] [v] pos) (ZeI tk tv):=by
 intro pins s σ H Q I q
 have hn:=I.hok.fresh (ZsU s.heap.objs.size)
 have I1:=I.laid (a:=s.heap.objs.size) (o:=.dT []) (h':=s.heap.push { cls:=.type "dict",data:=.dict #[] }) (t':=s.toks) (fun _ _ q=>Heap.get?_push_of_some _ q) (ZsU _) (Zh8 s.heap I.big)
 have hp:=ZgR (pos:=pos) hk hv ZiK
 refine wpAny_Dict_any rfl rfl (by simp) (by simp) (thn (hp pins _ σ _ (fun ps H2=>∃x y,ps=[(x,y)]/\∃b k,x=.ref b/\H2 b=some (.tup (k.map kV))/\H2 s.heap.objs.size=some (.dT [])/\Q (.ref s.heap.objs.size) (upd H2 s.heap.objs.size (.dT [(k,y)]))) I1 ?_) fun ws s2 ⟨ps,H2,I2,rel,x,y,ep,b,kk,ex,eb,e,q2⟩=>?_)
 ·have:=q _ hn
  show Zdf [(tk,tv)] σ _ _
  unfold Zdf
  refine cast (congrArg (fun f=>tk σ (upd H s.heap.objs.size (.dT [])) f) (funext fun x=>funext fun H1=>congrArg (fun f=>tv σ H1 f) (funext fun y=>funext fun H2=>propext ⟨fun z=>⟨x,y,rfl,z⟩,fun⟨x',y',e',z⟩=>by cases e';exact z⟩))) this
 subst ep ex
 rcases ws with _|⟨⟨uk,uv⟩,ws⟩
 ·cases rel
 cases rel with
 |cons r1 r2 =>
  cases r2
  obtain⟨rk,rv⟩:=r1
  have ek:uk=Value.ref b:=rk
  subst ek
  obtain⟨z,hd,xs,rl,dd⟩:=Zlv I2.hok e
  cases rl
  show wpAny _ _ (forIn [(Value.ref b,uv)] PUnit.unit _) _ _ s2
  rw[List.forIn_cons]
  refine wpAny_bind (wpAny_bind (wpAny_dictSet_heap (hsz:=Ztp _) (show X.A.units<cLine by omega) (Zb7 I2.hok eb) dd fun h' dd' hs=>wpAny_pure ?_))
  dsimp only
  rw[List.forIn_nil]
  refine wpAny_pure ⟨.ref s.heap.objs.size,_, ?_,rfl,q2⟩
  obtain⟨qo,es,ep,hq,h2,h3,h4,_,h5⟩:=dd'
  refine ZcE I2 (by rw[e];exact True.intro) hs ⟨qo,hq⟩ ⟨?_,hd,_, ?_,qo,es,ep,hq,h2,h3,h4,h5⟩
  ·show 1<=sizeLine
   decide
  ·refine .cons ⟨rfl, ?_,rv⟩ .nil
   show upd H2 s.heap.objs.size _ b=_
   rw[Zr (Zja eb e (fun z=>nomatch z))]
   exact eb
section
variable {K:W.Frag}{B:Addr->Prop}{EX:PX->Hp->Prop}{H0 H:Hp}{σ:St}{Γ Γ1 Γ2:List Md}{ρ:List PV}{F:Nat->List Addr}{R:List Addr}{ta tb:TE}{fa fb:List PV->Rr PV}{k:Kd}
noncomputable def Zdz (y z:PV):Rr PV:=match y with
 |.tup ys=>match U5 ys with
  |some k=>.ok (.box none (.dt [k]) [z])
  |none=>.bad
 |_=>.bad
theorem ZbL (ha:DE K EX Γ Γ1 .A ta fa) (hb:DE K EX Γ1 Γ2 .P tb fb):DE K EX Γ Γ2 .F (ZeI ta tb) (fun ρ=>(fa ρ).bind fun y=>(fb ρ).bind fun z=>Zdz y z):=fun B H0 H σ ρ F R Q A d p hp=>by
 have A0:=A.newB (u:=.dT []) trivial hp
 have s0:Zw H (upd H p (.dT [])):=Zw.new hp
 refine ha B H0 _ σ ρ F (p::R) _ A0 (d.bind.imp (fun y _ d w H1 s1 r1=>?_) fun e q=>q)
 obtain⟨F1,f1,p1,A1⟩:=r1
 refine hb B H0 H1 σ ρ F1 (p::R) _ A1 (d.bind.imp (fun z _ d v H2 s2 r2=>?_) fun e q=>q)
 obtain⟨F2,f2,z1,z2,A2⟩:=r2
 have p1':=p1.same s2
 unfold Zdz at d
 split at d
 ·rename_i ys
  split at d
  ·rename_i kk ek
   rw[U4 ek] at p1'
   obtain⟨b,ws,rfl,hb,hws⟩:=p1'
   rw[Ux hws] at hb
   have hH:H2 p=some (.dT []):=s2 _ _ (s1 _ _ Z2)
   refine⟨b,kk,rfl,hb.1,hH, ?_⟩
   have hpR:p ∉ R:=fun q=>by obtain⟨u,e⟩:=A.liveR p q;rw[hp] at e;cases e
   have hpF:∀i,p ∉ F i:=fun i q=>by obtain⟨u,e⟩:=A.live i p q;rw[hp] at e;cases e
   have AR:Ag K B H0 (upd H2 p (.dT [(kk,v)])) σ Γ2 ρ F2 (p::R):=by
    refine⟨fun c o e=>?_,A2.own,A2.young,A2.youngR,fun i c hc=>?_,fun c hc=>?_,A2.disj,A2.disjR,A2.lenS,A2.lenR,fun i=>?_⟩
    ·rw[Zr (fun z=>by rw[z] at e;have:=A2.youngR p (by simp);rw[e] at this;cases this)];exact A2.same c o e
    ·rw[Zr (fun z=>by rw[z] at hc;exact A2.disjR i p hc (by simp))];exact A2.live i c hc
    ·by_cases q:c=p
     ·exact⟨⟨.dT [(kk,v)],trivial⟩,by rw[q,Z2]⟩
     ·rw[Zr q];exact A2.liveR c hc
    ·refine(A2.slot i).mono (fun c us s r=>⟨?_,s⟩) (fun c us r=>Im.putL (us:=⟨.dT [],trivial⟩) hH r) fun c hc us q=>?_
     ·have hne:c≠p:=fun z=>s.2.1 (by rw[z];simp)
      rcases r with r|⟨o',r⟩
      ·exact .inl (by rw[Zr hne];exact r)
      ·exact .inr ⟨o',by rw[Zr hne];exact r⟩
     ·have hne:c≠p:=fun z=>A2.disjR i c hc (by rw[z];simp)
      rw[Zr hne];exact q
   have sm:Zw H (upd H2 p (.dT [(kk,v)])):=fun c o e=>by
    rw[Zr (ZP e hp)];exact s2 _ _ (s1 _ _ (s0 _ _ e))
   refine d _ _ sm ⟨F2,fun i a h=>f1 i a (f2 i a h),[p],⟨p,[v],_,[],rfl,Z2,⟨trivial,rfl,rfl⟩, ?_,by simp,rfl⟩,fun a ha=>?_,AR⟩
   ·exact⟨v,[],[],[],rfl,ZW.mono (fun a ha=>by cases ha) (fun c us r=>Im.putL (us:=⟨.dT [],trivial⟩) hH r) (z2.tree z1),⟨rfl,rfl⟩,by simp,rfl⟩
   ·rw[Zti.mp ha];exact⟨hpR,.inl hp⟩
  ·exact d.elim
 ·exact d.elim
end
section
variable {X:Cx}{K:W.Frag}
def Zic (K:W.Frag):List V->Hp->VK->Prop:=fun xs H Q=>∃p ys,xs=[.ref p]/\((SqL K H p ys/\∀l,H l=none->Q (.ref l) (upd H l (.tup ys)))\/(SqT K H p ys/\Q (.ref p) H))
theorem Jn (e:X.K=K:=by rfl):JJ X (.type "tuple") (Zic K):=by subst e;exact Zba
theorem JR:bootBuiltins "tuple"=some (.type "tuple"):=by decide +kernel
variable {B:Addr->Prop}{EX:PX->Hp->Prop}{H0 H:Hp}{σ:St}{Γ Γ':List Md}{ρ:List PV}{F:Nat->List Addr}{R:List Addr}{ta:TA}{fa:List PV->Rr (List PV)}
noncomputable def UX (xs:List PV):Rr PV:=match xs with
 |[.lst ys]=>.ok (.tup ys)
 |[.tup ys]=>.ok (.tup ys)
 |_=>.bad
theorem Vy (ha:DAA K EX Γ Γ' ta fa):DE K EX Γ Γ' .A (tCB (Zic K) ta) (fun ρ=>(fa ρ).bind UX):=fun B H0 H σ ρ F R Q A d=>by
 refine ha B H0 H σ ρ F R _ A (d.bind.imp (fun xs _ d vs H1 F1 s1 f1 p1 A1=>?_) fun e q=>q)
 unfold UX at d
 split at d
 ·obtain⟨v,rfl,a,ws,rfl,hn,hr⟩:=UL p1
  refine⟨a,ws,rfl,.inl ⟨V5 (S:=fun _=>True) hn,fun l hl=>?_⟩⟩
  have e:=Zw.new (H:=H1) (o:=.tup ws) hl
  exact d _ _ (s1.trans e) ⟨F1,f1,⟨l,ws,rfl,⟨Z2,trivial⟩,hr.same e⟩,A1.grow e⟩
 ·obtain⟨v,rfl,a,ws,rfl,hn,hr⟩:=UL p1
  exact⟨a,ws,rfl,.inr ⟨hn.sqT,d _ _ s1 ⟨F1,f1,⟨a,ws,rfl,hn,hr⟩,A1⟩⟩⟩
 ·exact d.elim
end
noncomputable def ins {α:Type}:Nat->α->List α->List α
 |0,v,us=>v::us
 |_+1,v,[]=>[v]
 |j+1,v,u::us=>u::ins j v us
theorem VF {α:Type}:∀{j:Nat}{v:α}{us:List α},(ins j v us).length=us.length+1
 |0,_,_=>rfl
 |_+1,_,[]=>rfl
 |j+1,v,u::us=>by simp[ins,VF (j:=j) (v:=v) (us:=us)]
theorem U7 {α:Type}:∀{j:Nat}{v:α}{us:List α} (i:Nat),j<=us.length->(ins j v us)[i]?=if i<j then us[i]? else if i=j then some v else us[i-1]?
 |0,v,us,0,_=>rfl
 |0,v,us,i+1,_=>by simp[ins]
 |j+1,v,[],_,h=>by simp at h
 |j+1,v,u::us,0,_=>rfl
 |j+1,v,u::us,i+1,h=>by
  have:=U7 (j:=j) (v:=v) (us:=us) i (by simpa using h)
  rw[ins,Zut,this]
  by_cases c:i<j
  ·rw[if_pos c,if_pos (show i+1<j+1 by omega)];rfl
  ·by_cases e:i=j
   ·rw[if_neg c,if_pos e,if_neg (show ¬i+1<j+1 by omega),if_pos (show i+1=j+1 by omega)]
   ·rw[if_neg c,if_neg e,if_neg (show ¬i+1<j+1 by omega),if_neg (show ¬i+1=j+1 by omega)]
    obtain⟨m,rfl⟩:∃m,i=m+1:=⟨i-1,by omega⟩
    rfl
theorem ZbD {α β:Type}{f:α->β}:∀{j:Nat}{v:α}{us:List α},(ins j v us).map f=ins j (f v) (us.map f)
 |0,_,_=>rfl
 |_+1,_,[]=>rfl
 |j+1,v,u::us=>by simp[ins,ZbD (j:=j) (v:=v) (us:=us)]
theorem ZbE {α:Type}{r:List α}:∀{j:Nat}{v:α}{us:List α},j<=us.length->ins j v us++r=ins j v (us++r)
 |0,_,_,_=>rfl
 |_+1,_,[],h=>by simp at h
 |j+1,v,u::us,h=>by
  show u::(ins j v us++r)=u::ins j v (us++r)
  rw[ZbE (by simpa using h)]
section
variable {K:W.Frag}{H:Hp}
theorem ZW.pin {p:Option Addr}{s:Sh}{ys:List PV}{a:Addr}{G:List Addr} (h:ZW K H (.box p s ys) (.ref a) G):ZW K H (.box (some a) s ys) (.ref a) G:=by
 obtain⟨a',vs,u,G',e,h1,h2,h3⟩:=h
 cases e
 exact⟨a,vs,u,G',rfl,h1,⟨rfl,h2.2⟩,h3⟩
theorem ZW.unpin {p:Option Addr}{s:Sh}{ys:List PV}{v:V}{G:List Addr} (h:ZW K H (.box p s ys) v G):ZW K H (.box none s ys) v G:=by
 obtain⟨a',vs,u,G',e,h1,h2,h3⟩:=h
 exact⟨a',vs,u,G',e,h1,⟨trivial,h2.2⟩,h3⟩
theorem ZW.repin {p:Option Addr}{s:Sh}{ys:List PV}{a:Addr}{G:List Addr} (hp:ZlX p a) (h:ZW K H (.box none s ys) (.ref a) G):ZW K H (.box p s ys) (.ref a) G:=by
 obtain⟨a',vs,u,G',e,h1,h2,h3⟩:=h
 cases e
 exact⟨a,vs,u,G',rfl,h1,⟨hp,h2.2⟩,h3⟩
theorem ZW.pinned {b:Addr}{s:Sh}{ys:List PV}{v:V}{G:List Addr} (h:ZW K H (.box (some b) s ys) v G):v=.ref b:=by
 obtain⟨a',vs,u,G',e,h1,h2,h3⟩:=h
 rw[e,show a'=b from h2.1]
end
noncomputable def spM (K:W.Frag) (n j:Nat) (m:PV->List PV->Rr PV):Sp:=fun vs H Q E=>∃(B:Addr->Prop) (xs:List PV) (us:List V) (a:Addr) (s:Sh) (ys:List PV) (G:List Addr),
 vs=ins j (.ref a) us/\xs.length=n/\Reps K H B xs us/\ZW K H (.box none s ys) (.ref a) G/\(∀b,B b->b ∉ G) /\
 Dn (m (.box none s ys) xs) (fun r=>∃y s' ys',r=.tup [y,.box none s' ys']/\∀u H' G1 G2,Zw (minus H G) H'->ZW K H' y u G1->ZW K H' (.box none s' ys') (.ref a) G2->(∀b∈G1,b ∉ G2)->(∀b∈G1,minus H G b=none)->(∀b∈G2,minus H G b=none)->Q u H') (fun _=>False)
noncomputable def Zmq (a:Addr) (b:PV):PV:=match b with
 |.box _ s ys=>.box (some a) s ys
 |x=>x
noncomputable def Zmp (a:Addr) (r:Rr PV):Rr PV:=match r with
 |.ok (.tup [y,.box _ s ys])=>.ok (.tup [y,.box (some a) s ys])
 |.ok _=>.bad
 |.exc e=>.exc e
 |.bad=>.bad
noncomputable def RS.outN (j:Nat) (r:RS):Rr PV:=match r with
 |.next ρ=>.ok (.tup [.non,gv j ρ])
 |.ret x=>.ok x
 |.exc e=>.exc e
 |_=>.bad
section
variable {K:W.Frag}{B:Addr->Prop}{EX:PX->Hp->Prop}{H0 H:Hp}{σ:St}{Γ Γ' Γ1 Γ2 Γ3:List Md}{ρ:List PV}{F:Nat->List Addr}
theorem Ag.initM {s:Sh}{ys:List PV}{a:Addr}{G:List Addr}{xs:List PV}{us:List V}{j l:Nat} (ht:ZW K H (.box none s ys) (.ref a) G) (h:Reps K H B xs us) (hB:∀b,B b->b ∉ G) (hj:j<=xs.length) :
  Ag K (fun b=>B b\/minus H G b=none) (minus H G) H (ins j (some (.ref a)) (us.map some++List.replicate l none)) (ins j .O (List.replicate xs.length .S++List.replicate l .U)) (ins j (.box (some a) s ys) (xs++List.replicate l .non)) (JS (fun _=>[]) j G) []:=by
 have fin:∀i,∀b∈JS (fun _=>[]) j G i,i=j/\b∈G:=fun i b hb=>by
  unfold JS at hb
  split at hb
  ·exact⟨by assumption,hb⟩
  ·simp at hb
 have A:=Ag.init (n:=l) h
 refine⟨Zap,fun b h=>.inr h,fun i b hb=>Qt (fin i b hb).2,by simp,fun i b hb=>ht.alive b (fin i b hb).2,by simp,fun i k hik b hb z=>hik ((fin i b hb).1.trans (fin k b z).1.symm),by simp,by simp[VF,h.length],by simp[VF],fun i=>?_⟩
 have hjs:j<=(us.map some++List.replicate l (none:Option V)).length:=by simp[h.length];omega
 have hjg:j<=(List.replicate xs.length Md.S++List.replicate l Md.U).length:=by simp;omega
 have hjr:j<=(xs++List.replicate l PV.non).length:=by simp;omega
 rw[ZsO,ZsO,U7 i hjs,U7 i hjg,U7 i hjr]
 have go:∀q,q≠j\/True->Ud K H (NO (fun b=>B b\/minus H G b=none) (JS (fun _=>[]) j G) []) ((List.replicate xs.length Md.S++List.replicate l Md.U)[q]?.getD .U) ((xs++List.replicate l PV.non)[q]?.getD .non) (us.map some++List.replicate l none)[q]? []:=fun q _=>by
  have sl:=A.slot q
  rw[ZsO,ZsO] at sl
  refine sl.mono (fun b u s r=>⟨r, ?_,by simp,fun k z=>?_⟩) (fun b u r=>r) (fun b hb=>by cases hb)
  ·rcases s.1 with s|s
   ·exact .inl s
   ·exact .inr (by
     by_cases q:b∈G
     ·exact Qt q
     ·rw[ZL q];exact s)
  ·have z:=(fin k b z).2
   rcases s.1 with s|s
   ·exact hB b s z
   ·obtain⟨vs,q⟩:=ht.alive b z
    rw[s] at q;cases q
 by_cases c:i<j
 ·rw[if_pos c,if_pos c,if_pos c,Zs (by omega)]
  exact go i (.inr trivial)
 ·rw[if_neg c,if_neg c,if_neg c]
  by_cases e:i=j
  ·rw[if_pos e,if_pos e,if_pos e]
   subst e
   rw[Zp]
   exact⟨_,rfl,ht.pin⟩
  ·rw[if_neg e,if_neg e,if_neg e,Zs e]
   exact go (i-1) (.inr trivial)
noncomputable def Zml (y x:PV):RS:=match x with
 |.box (some a) s xs=>.ret (.tup [y,.box (some a) s xs])
 |_=>.bad
theorem Zj1 {j:Nat}{te:TE}{f:List PV->Rr PV} (he:DE K EX Γ Γ' .F te f) (hm:Γ'[j]?=some .O):DS K EX Γ ⟨Γ3,Γ1,Γ2,.N⟩ (Zkh te) (fun ρ=>(f ρ).thenS fun y=>Zml y (gv j ρ)):=fun B H0 H σ ρ F D A d=>by
 refine he B H0 H σ ρ F [] _ A (d.thenS.imp (fun y _ d v H1 s1 r1=>?_) fun e q=>q)
 obtain⟨F1,f1,G,h1,h2,A1⟩:=r1
 unfold Zml at d
 split at d
 ·rename_i a s xs ex
  obtain⟨w,w1,w2⟩:=A1.getO hm
  rw[show ρ.getD j .non=.box (some a) s xs from ex] at w2
  have:=w2.pinned
  subst this
  exact d v H1 A1.same ⟨y,a,s,xs,G,F1 j,rfl,h1,w2,fun b hb z=>A1.disjR j b z (ZsW _ hb),fun b hb=>A1.youngR b (ZsW _ hb),fun b hb=>A1.young j b hb⟩
 ·exact d.elim
end
section
variable {P:Program}{w:World}{K:W.Frag}{mg:Str->Option Value}{base:Heap}
theorem Fun.okM {x qual:Str}{st:Stmt}{f:Addr}{fd:FuncData}{N ps:List Str}{k n l j:Nat}{m:PV->List PV->Rr PV} (F:Fun K x qual st f fd) (S:Zx N ps (Zg st)) (hn:ps.length=n+1) (hl:N.length-(n+1)=l) (hj:j<=n)
  (hbody:∀(cdv:Value) (A:Around) (outer:List Env) (s:Shared) (H:Hp) (E:XK),Qc k (A.deeper (envOfC qual (Zg st) s.heap.objs.size f cdv)) ->
   ∃t g Y,Y.r=.N/\Y.n[j]?=some .O/\PSs (Zbg CX0 P w K mg base N qual (Zg st) f cdv A outer s H E).nox (Zt st) t/\DS K X0 (ins j .O (List.replicate n .S++List.replicate l .U)) Y t g /\
    ∀a b xs,Ref (Zmp a (m b xs)) ((g (ins j (Zmq a b) (xs++List.replicate l .non))).outN j)) :
  JT P w K mg base CX0 (k+1) f fd ps (spM K n j m):=by
 refine F.ok S (fun vs H Q E h=>?_) (fun cdv A outer s H vs Q E hr h=>?_)
 ·obtain⟨B,xs,us,a,s,ys,G,rfl,h1,h2,_⟩:=h
  rw[VF,h2.length,h1,hn]
 ·obtain⟨B,xs,us,a,s',ys,G,rfl,h1,h2,h3,h4,dn⟩:=h
  obtain⟨t,g,Y,hY,hYn,ht,hd,href⟩:=hbody cdv A outer s H E hr
  refine⟨t,ht, ?_⟩
  have A0:=Ag.initM (l:=l) h3 h2 h4 (show j<=xs.length by omega)
  have est:VY N (ins j (.ref a) us)=ins j (some (.ref a)) (us.map some++List.replicate l none):=by
   unfold VY
   rw[VF,h2.length,h1,hl,ZbD,ZbE (by rw[ZsV,h2.length];omega)]
  rw[est]
  rw[h1] at A0
  refine hd _ (minus H G) H _ _ _ _ A0 ?_
  have hr:=href a (.box none s' ys) xs
  rw[show Zmq a (.box none s' ys)=.box (some a) s' ys from rfl] at hr
  cases em:m (.box none s' ys) xs with
  |bad=>rw[em] at dn;exact dn.elim
  |exc q=>rw[em] at dn;exact dn.elim
  |ok r =>
   rw[em] at dn hr
   obtain⟨y,s2,ys2,rfl,q⟩:=dn
   have ho:(g (ins j (.box (some a) s' ys) (xs++List.replicate l .non))).outN j=.ok (.tup [y,.box (some a) s2 ys2]):=by
    rcases hr with e|e
    ·cases e
    ·exact e.symm
   cases e:g (ins j (.box (some a) s' ys) (xs++List.replicate l .non)) with
   |next ρ =>
    rw[e] at ho
    have hy:PV.tup [.non,gv j ρ]=.tup [y,.box (some a) s2 ys2]:=by simpa[RS.outN] using ho
    simp only[PV.tup.injEq,List.cons.injEq,and_true] at hy
    obtain⟨rfl,hb⟩:=hy
    refine fun σ' H' F' fr A'=>?_
    obtain⟨v,w1,w2⟩:=A'.getO hYn
    rw[show ρ.getD j .non=.box (some a) s2 ys2 from hb] at w2
    have:=w2.pinned
    subst this
    exact q .non H' [] (F' j) A'.same ⟨rfl,rfl⟩ w2.unpin (by simp) (by simp) fun b hb=>A'.young j b hb
   |ret z =>
    rw[e] at ho
    have hy:z=.tup [y,.box (some a) s2 ys2]:=by simpa[RS.outN] using ho
    subst hy
    refine fun v H' s r=>?_
    rw[hY] at r
    obtain⟨y',a',s3,xs3,G1,G2,e1,r1,r2,r3,r4,r5⟩:=r
    simp only[PV.tup.injEq,List.cons.injEq,and_true,PV.box.injEq,Option.some.injEq] at e1
    obtain⟨rfl,rfl,rfl,rfl⟩:=e1
    exact q v H' G1 G2 s r1 r2.unpin r3 r4 r5
   |exc q=>rw[e] at ho;cases ho
   |brk ρ=>rw[e] at ho;cases ho
   |cont ρ=>rw[e] at ho;cases ho
   |bad=>rw[e] at ho;cases ho
end
def NoE {α:Type} (f:List PV->Rr α):Prop:=∀ρ e,f ρ≠.exc e
def DER (K:W.Frag) (Γ:List Md) (te:TE) (f:List PV->Rr PV):Prop:=NoE f /\
 ∀(B:Addr->Prop) (H0 H:Hp) (σ:St) (ρ:List PV) (F:Nat->List Addr) (R:List Addr) (Q:VK),Ag K B H0 H σ Γ ρ F R ->
  (∃x,f ρ=.ok x/\∀v,Rep K H (fun a=>a ∉ R) x v->Q v H)->te σ H Q
def DAR (K:W.Frag) (Γ:List Md) (ta:TA) (f:List PV->Rr (List PV)):Prop:=NoE f /\
 ∀(B:Addr->Prop) (H0 H:Hp) (σ:St) (ρ:List PV) (F:Nat->List Addr) (R:List Addr) (Q:List V->Hp->Prop),Ag K B H0 H σ Γ ρ F R ->
  (∃xs,f ρ=.ok xs/\∀vs,Reps K H (fun a=>a ∉ R) xs vs->Q vs H)->ta σ H Q
def DAM (K:W.Frag) (Γ:List Md) (i j:Nat) (ta:TA) (f:List PV->Rr (List PV)):Prop:=NoE f /\
 ∀(B:Addr->Prop) (H0 H:Hp) (σ:St) (ρ:List PV) (F:Nat->List Addr) (R:List Addr) (v:V) (Q:List V->Hp->Prop),Ag K B H0 H σ Γ ρ F R->σ[i]?=some (some v) ->
  (∃xs,f ρ=.ok xs/\∀vs,Reps K H (fun a=>a ∉ R) xs vs->Q (ins j v vs) H)->ta σ H Q
theorem bind_ok {α β:Type}{r:Rr α}{g:α->Rr β}{y:β} (h:r.bind g=.ok y):∃x,r=.ok x/\g x=.ok y:=by
 cases r with
 |ok x=>exact⟨x,rfl,h⟩
 |exc e=>cases h
 |bad=>cases h
theorem Qs {α β:Type}{f:List PV->Rr α}{g:List PV->α->Rr β} (h1:NoE f) (h2:∀ρ x e,g ρ x≠.exc e):NoE (fun ρ=>(f ρ).bind (g ρ)):=fun ρ e q=>by
 cases ef:f ρ with
 |ok x=>simp only[ef] at q;exact h2 ρ x e q
 |exc e'=>exact h1 ρ e' ef
 |bad=>simp only[ef] at q;cases q
section
variable {K:W.Frag}{B:Addr->Prop}{EX:PX->Hp->Prop}{H0 H H':Hp}{σ:St}{Γ Γ1 Γ2:List Md}{ρ:List PV}{F F':Nat->List Addr}{R:List Addr}{te tb:TE}{ta:TA}{f fb:List PV->Rr PV}{fa:List PV->Rr (List PV)}{i j n:Nat}{m:PV->List PV->Rr PV}
theorem ZfZ {l:Nat}{md:Md} (h:Γ[l]?=some md) (hm:md≠.U):DER K Γ (QW l) (fun ρ=>.ok (gv l ρ)):=⟨fun ρ e q=>(by cases q),fun B H0 H σ ρ F R Q A d=>by
 obtain⟨x,e,d⟩:=d
 cases e
 cases md with
 |U=>exact absurd rfl hm
 |P=>obtain⟨v,h1,h2,h3⟩:=A.getP h;exact⟨v,h1,d v (h3.flatS h2)⟩
 |S=>obtain⟨v,h1,h2⟩:=A.getS h;exact⟨v,h1,d v (Rep.mono (fun a u s r=>⟨r,s.2.1⟩) (fun a u r=>r) h2)⟩
 |T =>
  obtain⟨a,vs,xs,h1,h2,h3,h4,h5⟩:=A.getT h
  refine⟨_,h1,d _ ?_⟩
  rw[show gv l ρ=.lst xs from h2]
  exact⟨a,vs,rfl,.inl ⟨.inl h3,A.disjR l a (by rw[h5];simp)⟩,Reps.mono (fun a u s r=>⟨r,s.2.1⟩) (fun a u r=>r) h4⟩
 |O=>obtain⟨v,h1,h2⟩:=A.getO h;exact⟨v,h1,d v (h2.rep fun a ha=>A.disjR l a ha)⟩⟩
theorem Zl1 (h1:DER K Γ te f) (h2:DER K Γ tb fb):DER K Γ (tOp (rIx K) te tb) (fun ρ=>(f ρ).bind fun x=>(fb ρ).bind fun y=>pIx x y):=⟨Qs h1.1 fun ρ x e q=>(Qs (g:=fun _ y=>pIx x y) h2.1 fun _ y e=>Zby x y e) ρ e q,fun B H0 H σ ρ F R Q A d=>by
 obtain⟨z,e,d⟩:=d
 obtain⟨x,e1,e⟩:=bind_ok e
 obtain⟨y,e2,e⟩:=bind_ok e
 exact h1.2 B H0 H σ ρ F R _ A ⟨x,e1,fun v hv=>h2.2 B H0 H σ ρ F R _ A ⟨y,e2,fun w hw=>ZeV hv hw.any e fun u hu=>d u hu⟩⟩⟩
theorem ZjC:DAR K Γ Zbe (fun _=>.ok []):=⟨fun ρ e q=>(by cases q),fun B H0 H σ ρ F R Q A d=>by
 obtain⟨x,e,d⟩:=d
 cases e
 exact d [] rfl⟩
theorem ZhH (ha:DAR K Γ ta fa):DAM K Γ i 0 (VX (QW i) ta) fa:=⟨ha.1,fun B H0 H σ ρ F R v Q A hv d=>⟨v,hv,ha.2 B H0 H σ ρ F R _ A d⟩⟩
theorem ZdQ (he:DER K Γ te f) (ha:DAM K Γ i j ta fa):DAM K Γ i (j+1) (VX te ta) (fun ρ=>(f ρ).bind fun x=>(fa ρ).bind fun xs=>.ok (x::xs)):=⟨Qs he.1 fun ρ x e q=>(Qs (g:=fun _ xs=>.ok (x::xs)) ha.1 fun _ y e q=>by cases q) ρ e q,fun B H0 H σ ρ F R v Q A hv d=>by
 obtain⟨z,e,d⟩:=d
 obtain⟨x,e1,e⟩:=bind_ok e
 obtain⟨y,e2,e⟩:=bind_ok e
 cases e
 exact he.2 B H0 H σ ρ F R _ A ⟨x,e1,fun u hu=>ha.2 B H0 H σ ρ F R v _ A hv ⟨y,e2,fun vs hvs=>d (u::vs) ⟨u,vs,rfl,hu,hvs⟩⟩⟩⟩
def DM (K:W.Frag) (EX:PX->Hp->Prop) (Γ:List Md) (i:Nat) (te:TE) (fm:List PV->Rr (PV×PV)):Prop:=
 ∀(B:Addr->Prop) (H0 H:Hp) (σ:St) (ρ:List PV) (F:Nat->List Addr) (Q:VK),Ag K B H0 H σ Γ ρ F [] ->
  Dn (fm ρ) (fun r=>∀v H' F' G,Frm H F H' F'->ZW K H' r.1 v G->(∀b∈G,H b=none\/∃l,b∈F l)->Ag K B H0 H' σ Γ (ρ.set i r.2) F' (G++[])->Q v H') (fun e=>∀H',Zw H0 H'->EX e H')->te σ H Q
noncomputable def Zgy (m:PV->List PV->Rr PV) (x:PV) (xs:List PV):Rr (PV×PV):=match x with
 |.box p s ys=>match m (.box none s ys) xs with
  |.ok (.tup [y,.box none s' ys'])=>.ok (y,.box p s' ys')
  |_=>.bad
 |_=>.bad
theorem Zkt {α:Type}{l:List α}{i:Nat}{v:α} (h:l[i]?=some v):l.set i v=l:=by
 apply Zuy
 intro q
 by_cases e:i=q
 ·subst e;rw[Zto (ZsR.mp h).1,h]
 ·rw[Ztj e]
theorem Zj5 (hm:Γ[i]?=some .O) (hn:Len fa n) (ha:DAM K (Γ.set i .U) i j ta fa):DM K EX Γ i (UV (spM K n j m) ta) (fun ρ=>(fa ρ).bind fun xs=>Zgy m (gv i ρ) xs):=fun B H0 H σ ρ F Q A d=>by
 obtain⟨v,h1,h2⟩:=A.getO hm
 have hi:=A.lt hm
 cases ea:fa ρ with
 |bad=>dsimp only at d;rw[ea] at d;exact d.elim
 |exc q=>exact absurd ea (ha.1 ρ q)
 |ok xs =>
  refine ha.2 B H0 H σ ρ _ (F i++[]) v _ (A.move hm) h1 ⟨xs,ea,fun vs hvs=>?_⟩
  dsimp only at d
  rw[ea] at d
  have d:Dn (Zgy m (gv i ρ) xs) _ _:=d
  unfold Zgy at d
  split at d
  ·rename_i p s ys er
   rw[show ρ.getD i .non=.box p s ys from er] at h2
   split at d
   ·rename_i y s2 ys2 em
    obtain⟨a,ws,u0,G0,rfl,hH,hb,ht,hna,hF⟩:=id h2
    refine⟨fun b=>b ∉ F i,xs,vs,a,s,ys,F i,rfl,hn ρ xs ea,Reps.mono (fun b u s r=>⟨r,fun z=>s (by simp[z])⟩) (fun b u r=>r) hvs,h2.unpin,fun b hb z=>hb z, ?_⟩
    rw[em]
    refine⟨y,s2,ys2,rfl,fun u H' G1 G2 sm t1 t2 dj n1 n2=>?_⟩
    have AL:=(A.move hm).lost sm
    have hiU:(Γ.set i .U)[i]?=some .U:=by rw[Zto hi]
    have nw:∀b,minus H (F i) b=none->(∀l,b ∉ JS F i [] l)/\H0 b=none:=fun b hb=>by
     refine⟨fun l z=>?_, ?_⟩
     ·by_cases q:l=i
      ·subst q;rw[Zp] at z;simp at z
      ·rw[Zs q] at z
       rw[ZL (fun w=>A.disj l i q b z w)] at hb
       obtain⟨o,e⟩:=A.live l b z
       rw[hb] at e;cases e
     ·by_cases q:b∈F i
      ·exact A.young i b q
      ·rw[ZL q] at hb
       exact A.same.free hb
    have AM:Ag K B H0 H' σ (Γ.set i .U) ρ (JS F i []) (G2++(G1++[])):=by
     refine⟨AL.same,AL.own,AL.young,fun b hb=>?_,AL.live,fun b hb=>?_,AL.disj,fun l b hb z=>?_,AL.lenS,AL.lenR,fun l=>?_⟩
     ·rcases ZsS.mp hb with z|z
      ·exact(nw b (n2 b z)).2
      ·exact(nw b (n1 b (by simpa using z))).2
     ·rcases ZsS.mp hb with z|z
      ·exact t2.alive b z
      ·exact t1.alive b (by simpa using z)
     ·rcases ZsS.mp z with z|z
      ·exact(nw b (n2 b z)).1 l hb
      ·exact(nw b (n1 b (by simpa using z))).1 l hb
     ·refine((A.move hm).slot l).mono (fun b o s r=>⟨(r.minus (fun z=>s.2.1 (by simp[z]))).same sm,s.1,fun z=>?_,s.2.2⟩) (fun b o r=>sm.im (r.minus fun c hc=>A.live i c hc)) fun b hb o q=>sm _ _ ?_
      ·have hb:minus H (F i) b≠none:=by
        rw[ZL (fun z=>s.2.1 (by simp[z]))]
        rcases r with r|⟨o',r⟩<;>(rw[r];simp)
       rcases ZsS.mp z with z|z
       ·exact hb (n2 b z)
       ·exact hb (n1 b (by simpa using z))
      ·rw[ZL (fun z=>(A.move hm).disjR l b hb (by simp[z]))];exact q
    have AP:=Ag.put (i:=i) (m:=.O) (x:=.box p s2 ys2) (v:=.ref a) (G:=G2) (R:=G1++[]) AM (by rw[ZtH];exact hi) (fun b hb z=>dj b (by simpa using z) hb) ⟨.ref a,rfl,t2.repin hb.1⟩
    rw[Zkt h1,List.set_set,ZgK hm] at AP
    refine d u H' _ G1 (fun b o h n=>?_) t1 (fun b hb=>?_) AP
    ·have e:minus H (F i) b=some o:=by rw[ZL (n i)];exact h
     refine⟨sm _ _ e,fun l z=>?_⟩
     by_cases q:l=i
     ·subst q
      rw[Zp] at z
      rw[n2 b z] at e;cases e
     ·rw[Zs q,Zs q] at z
      exact n l z
    ·have:=n1 b hb
     by_cases q:b∈F i
     ·exact .inr ⟨i,q⟩
     ·rw[ZL q] at this;exact .inl this
   ·exact d.elim
  ·exact d.elim
variable {fm:List PV->Rr (PV×PV)}{k:Kd}{l:Nat}
theorem Zj3 (hm:Γ[l]?=some .O) (hil:l≠i) (he:DM K EX Γ i te fm) :
  DS K EX Γ ⟨Γ,Γ1,Γ2,k⟩ (Zbl (tBM K "list" UM (QW l) (VX te Zbe))) (fun ρ=>(asL (gv l ρ)).thenS fun xs=>(fm ρ).thenS fun r=>(pApp (.lst xs) r.1).thenS fun z=>.next ((ρ.set i r.2).set l z)):=fun B H0 H σ ρ F D A d=>by
 obtain⟨v,h1,h2⟩:=A.getO hm
 refine⟨v,h1, ?_⟩
 obtain⟨xs,e1,d⟩:=Dn.asL d.thenS
 rw[show ρ.getD l .non=.lst xs from e1] at h2
 obtain⟨a,vs,G,rfl,hH,ht,hn,hF⟩:=h2
 refine⟨.inl ⟨rfl,_,SqL.of hH⟩,he B H0 H σ ρ F _ A (d.thenS.imp (fun r _ d w H2 F2 G2 fr y1 y2 A2=>?_) fun e q=>q)⟩
 obtain⟨xs',e2,hlen,d⟩:=Dn.pApp d.thenS
 cases e2
 obtain⟨v',h1',h2'⟩:=A2.getO hm
 rw[h1] at h1';cases h1'
 have el:(ρ.set i r.2).getD l .non=.lst xs:=by
  rw[ZsO,Ztj (Ne.symm hil),<- ZsO];exact e1
 rw[el] at h2'
 obtain⟨a',vs',G',e,hH',ht',hn',hF'⟩:=h2'
 cases e
 refine⟨a,vs',w,rfl,rfl,hH',by rw[ht'.length];exact Ztc hlen (by decide), ?_⟩
 have haF:a∈F2 l:=by rw[hF'];simp
 have dj:∀b∈G',b ∉ G2:=fun b hb z=>A2.disjR l b (by rw[hF'];simp[hb]) (ZsW _ z)
 have na:a ∉ G2:=fun z=>A2.disjR l a haF (ZsW _ z)
 have hsub:∀b∈a::(G'++G2),b∈F2 l\/b∈G2:=fun b hb=>by
  rw[hF']
  rcases ZsZ.mp hb with rfl|hb
  ·simp
  ·rcases ZsS.mp hb with z|z
   ·simp[z]
   ·exact .inr z
 have hna:a ∉ G'++G2:=fun z=>(ZsS.mp z).elim hn' na
 refine d σ _ (JS F2 l (a::(G'++G2))) (fun b o h n=>?_) (Ag.chg (G:=G2) (R:=[]) A2 hm haF hsub (by simp) ?_)
 ·obtain⟨q1,q2⟩:=fr b o h n
  have hne:b≠a:=fun z=>q2 l (z▸haF)
  refine⟨by rw[Zr hne];exact q1,fun j z=>?_⟩
  by_cases q:j=l
  ·subst q;rw[Zp] at z
   rcases hsub b z with w|w
   ·exact q2 j w
   ·rcases y2 b w with w|⟨c,w⟩
    ·rw[h] at w;cases w
    ·exact n c w
  ·rw[Zs q] at z;exact q2 j z
 ·exact⟨_,h1,a,_,G'++G2,rfl,Z2,(Trees.append ht' (Trees.one y1) dj).put hH' hna,hna,rfl⟩
end
noncomputable def Pm.fnM (m:Pm) (b:PV) (xs:List PV):Rr PV:=m.fn (b::xs)
theorem hu1 {n c:Nat} (h:n+64<c):n+1<c:=by omega
theorem ZgO {y:PV}{a:Addr}{s:Sh}{xs:List PV}:Zml y (.box (some a) s xs)=.ret (.tup [y,.box (some a) s xs]):=rfl
theorem ZhL {m:PV->List PV->Rr PV}{p:Option Addr}{s s':Sh}{ys ys' xs:List PV}{y:PV} (h:m (.box none s ys) xs=.ok (.tup [y,.box none s' ys'])):Zgy m (.box p s ys) xs=.ok (y,.box p s' ys'):=by
 unfold Zgy
 simp only[h]
section
variable {prog:Program}{w:World}{A:Around}{s:Shared}
theorem ZdC {fin:Bool}{Q:Bool->Shared->Prop}:∀{ns ms:List Int}{vs ws:List Value}{i:Nat},ZX (ns.map V.int) vs->ZX (ms.map V.int) ws->fin=decide (vs.length<ws.length)->Q (HT.ZD ns ms) s ->
  PySem.W.KatLex prog w A true fin Q (vs.zip ws) i s
 |[],[],_,_,i,.nil,.nil,e,q=>by subst e;exact q
 |[],m::ms,_,_,i,.nil,.cons r t,e,q=>by
  have:fin=true:=by rw[e];simp
  subst this
  exact q
 |n::ns,[],_,_,i,.cons r t,.nil,e,q=>by
  have:fin=false:=by rw[e];simp
  subst this
  exact q
 |n::ns,m::ms,_,_,i,.cons r t,.cons r' t',e,q=>by
  obtain⟨k,rfl⟩:=r
  obtain⟨k',rfl⟩:=r'
  rw[Zuv]
  refine PySem.W.kat_cons (wpAny_eqBool_int ?_)
  rw[HT.JL] at q
  by_cases h:n=m
  ·subst h
   rw[if_pos rfl] at q
   simp only[beq_self_eq_true]
   exact PySem.W.kat_yes (ZdC t t' (by rw[e];simp) q)
  ·rw[if_neg h] at q
   have hb:(n==m)=false:=by simpa using h
   rw[hb]
   refine PySem.W.kat_no ?_
   cases i with
   |zero=>exact oneLt_int q
   |succ i=>exact PySem.W.kat_one _ _ (PyProof.Rows.lt_int q)
end
noncomputable def Jd (t:List Int):PV:=.tup (t.map PV.int)
theorem Ut:∀{a b:List (List Int)},a.map Jd=b.map Jd->a=b
 |[],[],_=>rfl
 |[],y::b,h=>by simp at h
 |x::a,[],h=>by simp at h
 |x::a,y::b,h=>by
  simp only[Ztg,List.cons.injEq,Jd,PV.tup.injEq] at h
  rw[Jh h.1,Ut h.2]
section
variable {K:W.Frag}{B:Addr->Prop}{EX:PX->Hp->Prop}{H0 H:Hp}{σ:St}{Γ Γ1 Γ3:List Md}{ρ:List PV}{F:Nat->List Addr}{R:List Addr}{k:Kd}
theorem Zj0 {i:Nat} (hm:Γ[i]?=some .O):DS K EX Γ ⟨Γ,Γ1,Γ3,k⟩ (Zbl (tBM K "list" Zdp (QW i) Zbe)) (fun ρ=>(asL (gv i ρ)).thenS fun xs=>(newF xs.reverse).thenS fun z=>.next (ρ.set i z)):=fun B H0 H σ ρ F D A d=>by
 obtain⟨v,h1,h2⟩:=A.getO hm
 refine⟨v,h1, ?_⟩
 obtain⟨xs,e1,d⟩:=Dn.asL d.thenS
 rw[show ρ.getD i .non=.lst xs from e1] at h2
 obtain⟨a,vs,G,rfl,hH,ht,hn,hF⟩:=h2
 obtain⟨fl,hz,d⟩:=Dn.newF d.thenS
 refine⟨.inl ⟨rfl,_,SqL.of hH⟩,a,vs,rfl,rfl,hH, ?_⟩
 have haF:a∈F i:=by rw[hF];simp
 have hr:Reps K H (fun _=>True) xs.reverse vs.reverse:=Reps.rev (ht.reps fun _ _=>trivial)
 refine d σ _ (JS F i [a]) (VH (Zw.refl H) (fun _ _ h=>h) haF fun b hb=>.inr ⟨i,by rw[hF];simpa using .inl (Zti.mp hb)⟩) (Ag.chg (G:=[]) (R:=[]) A hm haF (fun b hb=>.inl (by rw[hF];simpa using .inl (Zti.mp hb))) (by simp) ?_)
 exact⟨_,h1,a,_,[],rfl,Z2,(hr.trees fl).put hH (by simp),by simp,rfl⟩
end
theorem Zj6 {K:W.Frag}{Γ:List Md}{c:Int}:DER K Γ (tUn (rU fun i=>.int (-i)) (tC (.int c))) (fun _=>.ok (.int (-c))):=⟨fun ρ e q=>(by cases q),fun B H0 H σ ρ F R Q A d=>by
 obtain⟨x,e,d⟩:=d
 cases e
 exact⟨c,rfl,d _ rfl⟩⟩
theorem Pm.refM2 (m:Pm) {r:Addr->PV->List PV->Rr PV} (h:∀i,m.pre i->∀a b xs,m.enc i=b::xs->r a b xs=Zmp a (m.out i)):∀a b xs,Ref (Zmp a (m.fnM b xs)) (r a b xs):=fun a b xs=>by
 unfold Pm.fnM Pm.fn
 by_cases hx:∃i,m.enc i=b::xs/\m.pre i
 ·rw[dif_pos hx]
  exact .inr (h _ hx.choose_spec.2 a b xs hx.choose_spec.1).symm
 ·rw[dif_neg hx];exact .inl rfl
theorem ZbU:bootBuiltins "sorted"=some (.builtin "sorted"):=by decide +kernel
section
variable {prog:Program}{w:World}{A:Around}{E:Value->Shared->Prop}{s:Shared}
theorem Zee {a:Addr}{vs:List Value}{n:Nat}{P:PySem.Fin->Shared->Prop} (κ:SortKind) (Rv:Value->Value->Bool) (ho:s.heap.get? a=some (seqObj "list" vs.toArray n)) (hz:vs.length<=1000000)
  (hk:2<=vs.length->∀(s1:Shared) (Q:SortKind->Shared->Prop),(∀b o,b≠a->s.heap.get? b=some o->s1.heap.get? b=some o)->Q κ s1->wpAny (model prog w) A (keyKind' vs.toArray) Q E s1)
  (hc:∀(s1:Shared) x y,x∈vs->y∈vs->(∀b o,b≠a->s.heap.get? b=some o->s1.heap.get? b=some o)->∀C:Bool->Shared->Prop,C (Rv x y) s1->wpAny (model prog w) A (keyLt' κ x y) C (fun _ _=>False) s1)
  (asy:∀x y,x∈vs->y∈vs->Rv x y=true->Rv y x=false) (tr:∀x y z,x∈vs->y∈vs->z∈vs->Rv y x=false->Rv z y=false->Rv z x=false)
  (hq:∀h' c out,(∀b o,b≠a->s.heap.get? b=some o->h'.get? b=some o)->out.Perm vs->out.Pairwise (fun x y=>Rv y x=false)->h'.get? a=some (seqObj "list" (List.toArray out) c)->P (.done (.ret .none)) { s with heap:=h' }) :
  wpAny (model prog w) A (Builtin.«list.sort» ⟨[.ref a],[]⟩) P E s:=by
 have la:a<s.heap.objs.size:=Heap.lt_size ho
 have line:vs.length<=sizeLine:=VQ hz
 obtain⟨e1,ho1⟩:∃c,(s.heap.update a (Obj.mapSeq fun _=>(#[]:Array Value))).get? a=some (seqObj "list" #[] c):=⟨_,get?_update_seq ho _⟩
 rw[list_sort_plain]
 refine wpAny_bind (listItems_at ho rfl (wpAny_bind (listUpdate_at ho rfl (wpAny_bind (seqEpoch_at ho1 rfl (wpAny_bind (wpAny_newTuple (wpAny_bind (wpAny_newList (wpAny_holding ?_) (Ztp _))) ?_)))) ?_ (Ztp _))))
 rotate_left
 ·exact line
 ·rw[Ztd];exact line
 generalize eh:((s.heap.update a (Obj.mapSeq fun _=>(#[]:Array Value))).push (seqObj "tuple" vs.toArray 0)).push (seqObj "list" #[] 0)=h3
 have k3:∀b o,b≠a->s.heap.get? b=some o->h3.get? b=some o:=fun b o nb q=>by
  subst eh
  exact Heap.get?_push_of_some _ (Heap.get?_push_of_some _ ((Heap.get?_update_ne _ _ _ _ nb).trans q))
 have a3:h3.get? a=some (seqObj "list" #[] e1):=by subst eh;exact Heap.get?_push_of_some _ (Heap.get?_push_of_some _ ho1)
 show wpAny _ _ _ P E { s with heap:=h3 }
 have fin:∀(out:List Value) (st:SortSt),(arrOf st).map (·.2)=List.toArray out->failedOf st=none->out.Perm vs->out.Pairwise (fun x y=>Rv y x=false) ->
   wpAny (model prog w) A (do
    let sorted:=(arrOf st).map (·.2)
    let touched:=(<- seqEpoch a) != e1
    Builtin.List.listUpdate (.ref a) fun _=>sorted
    if let some e:=failedOf st then rule "list.sort.comparison-raised";throw e
    if touched then rule "list.sort.modified";raiseError "ValueError" "list modified during sort"
    ret .none) P E { s with heap:=h3 }:=fun out st ho hf hl hout=>by
  dsimp only
  rw[ho,hf]
  obtain⟨c2,hc2⟩:∃c,(h3.update a (Obj.mapSeq fun _=>List.toArray out)).get? a=some (seqObj "list" (List.toArray out) c):=⟨_,get?_update_seq a3 _⟩
  refine wpAny_bind (seqEpoch_at a3 rfl (wpAny_bind (listUpdate_at a3 rfl ?_ (Ztp _) ?_)))
  ·simp only[bne_self_eq_false,Bool.false_eq_true,if_false]
   exact wpAny_pure (hq _ c2 out (fun b o nb q=>(Heap.get?_update_ne _ _ _ _ nb).trans (k3 b o nb q)) hl hout hc2)
  ·show (List.toArray out).size<=_
   rw[Ztd,hl.length_eq];exact Ztu line (Nat.le_succ _)
 dsimp only
 have zs:((vs.toArray.zip vs.toArray).map (·.2))=vs.toArray:=by
  apply Array.toList_inj.mp
  simp only[ZuT,Array.toList_zip]
  exact List.map_snd_zip (ZsU _)
 by_cases h2:vs.length<2
 ·have e2:vs.toArray.size<2:=by rw[Ztd];exact h2
  rw[if_pos e2,if_pos e2]
  refine wpAny_bind (wpAny_pure (wpAny_bind (wpAny_pure ?_)))
  refine fin vs _ zs rfl (List.Perm.refl _) ?_
  match vs,h2 with
  |[],_=>exact List.Pairwise.nil
  |[x],_=>exact List.pairwise_singleton _ _
 ·have e2:¬vs.toArray.size<2:=by rw[Ztd];exact h2
  rw[if_neg e2,if_neg e2]
  refine wpAny_bind (hk (by omega) _ _ k3 ?_)
  have zmem:∀x∈vs.toArray.zip vs.toArray,x.1∈vs/\x.1=x.2:=fun x hx=>by
   have hx:x∈vs.zip vs:=by simpa using hx
   obtain⟨i,hi⟩:=ZtK hx
   rw[List.getElem?_zip_eq_some] at hi
   have e:=hi.1.symm.trans hi.2
   exact⟨ZsQ hi.1,Option.some.inj e⟩
  have C:UE prog w A { s with heap:=h3 } κ (fun x=>x.1∈vs/\x.1=x.2) (fun x y=>Rv x.1 y.1):=
   ⟨fun x y hx hy Q q=>hc _ _ _ hx.1 hy.1 k3 Q q,fun x y hx hy q=>asy _ _ hx.1 hy.1 q,fun x y z hx hy hz q r=>tr _ _ _ hx.1 hy.1 hz.1 q r⟩
  have run:=ZbX (E:=E) C (st:=SortSt.mk' κ (vs.toArray.zip vs.toArray) #[] 7 none) (Q:=fun _ st'=>failedOf st'=none/\(arrOf st').Perm (vs.toArray.zip vs.toArray)/\Up (fun x y=>Rv x.1 y.1) (arrOf st') 0 (vs.toArray.zip vs.toArray).size) rfl rfl
   (fun i hi=>zmem _ (Array.mem_of_getElem? (Zat hi))) rfl (fun st' k1 k2 k3=>⟨k1,k2,k3⟩)
  refine wpAny_bind (wpAny_mono run ?_ fun _ _ e=>e)
  rintro⟨⟨⟩,st⟩ s' ⟨rfl,hf,hp,hu⟩
  dsimp only at hf hp hu
  have hsz:(arrOf st).size=(vs.toArray.zip vs.toArray).size:=hp.size_eq
  have same:∀x∈(arrOf st).toList,x.1=x.2:=fun x hx=>(zmem x ((Array.Perm.mem_iff hp).mp (by simpa using hx))).2
  refine fin ((arrOf st).toList.map (·.2)) st ?_ hf ?_ ?_
  ·apply Array.toList_inj.mp
   rw[ZuT]
  ·have p1:((arrOf st).toList.map (·.2)).Perm ((vs.toArray.zip vs.toArray).toList.map (·.2)):=(ZuO.mp hp).map _
   have p2:=congrArg Array.toList zs
   rw[ZuT] at p2
   rw[p2] at p1
   simpa using p1
  ·have sr:=hu.srt (Nat.le_of_eq (by rw[ZtA,hsz]))
   rw[Zun,Ztw (Nat.le_of_eq (by rw[ZsX,hsz]))] at sr
   rw[Zub]
   refine List.Pairwise.imp_of_mem ?_ sr
   intro x y hx hy q
   rw[<- same x hx,<- same y hy];exact q
theorem Q7 {l:Addr}{vs:List Value}{Q:Value->Shared->Prop} (κ:SortKind) (Rv:Value->Value->Bool) (hl:s.heap.IsList l vs.toArray) (hz:vs.length<=1000000)
  (hk:2<=vs.length->∀(s1:Shared) (Q:SortKind->Shared->Prop),(∀b o,s.heap.get? b=some o->s1.heap.get? b=some o)->Q κ s1->wpAny (model prog w) A.in1.in1 (keyKind' vs.toArray) Q E s1)
  (hc:∀(s1:Shared) x y,x∈vs->y∈vs->(∀b o,s.heap.get? b=some o->s1.heap.get? b=some o)->∀C:Bool->Shared->Prop,C (Rv x y) s1->wpAny (model prog w) A.in1.in1 (keyLt' κ x y) C (fun _ _=>False) s1)
  (asy:∀x y,x∈vs->y∈vs->Rv x y=true->Rv y x=false) (tr:∀x y z,x∈vs->y∈vs->z∈vs->Rv y x=false->Rv z y=false->Rv z x=false)
  (hq:∀D h' c out,(∀b o,s.heap.get? b=some o->h'.get? b=some o)->s.heap.objs.size<=D->out.Perm vs->out.Pairwise (fun x y=>Rv y x=false)->h'.get? D=some (seqObj "list" (List.toArray out) c)->Q (.ref D) { s with heap:=h' }) :
  wpAny (model prog w) A (call (.builtin "sorted") [.ref l]) Q E s:=by
 refine Calls.call_function_entry kind_sorted plain_sorted entry_sorted (args_sorted1 _) ?_
 unfold Builtin.«sorted»
 have line:vs.length<=sizeLine:=VQ hz
 refine wpAny_bind (m:=checkCount "sorted" 1 1 _) (wpAny_pure (wpAny_bind (collect_list hl (wpAny_bind (wpAny_newList ?_ line)) line)))
 generalize eg:(s.heap.push (seqObj "list" #[] 0)).update s.heap.objs.size (Obj.mapSeq (·++vs.toArray))=h1
 have z1:h1.objs.size=s.heap.objs.size+1:=by subst eg;rw[Heap.size_update,size_push']
 have k1:∀b o,s.heap.get? b=some o->h1.get? b=some o:=fun b o q=>by
  have lb:=Heap.lt_size q
  subst eg
  rw[Heap.get?_update_ne _ _ _ _ (Zt5 lb)]
  exact Heap.get?_push_of_some _ q
 have hD:(h1.push (seqObj "list" vs.toArray 0)).get? h1.objs.size=some (seqObj "list" vs.toArray 0):=Heap.get?_push_size _ rfl
 show wpAny _ _ _ _ _ { s with heap:=h1.push (seqObj "list" vs.toArray 0) }
 have up:∀(h2:Heap),(∀b o,b≠h1.objs.size->(h1.push (seqObj "list" vs.toArray 0)).get? b=some o->h2.get? b=some o)->∀b o,s.heap.get? b=some o->h2.get? b=some o:=fun h2 k b o q =>
  k b o (Zt5 (by rw[z1];exact Nat.lt_succ_of_lt (Heap.lt_size q))) (Heap.get?_push_of_some _ (k1 b o q))
 refine wpAny_bind (wpAny_holding (wpAny_call_entry slot_list_sort ⟨_,hD,rfl⟩ entry_list_sort (Zee (s:={ s with heap:=h1.push (seqObj "list" vs.toArray 0) }) κ Rv hD hz (fun h2 s1 Q k q=>hk h2 s1 Q (up _ k) q) (fun s1 x y hx hy k C q=>hc s1 x y hx hy (up _ k) C q) asy tr fun h' c out k p1 p2 e=>?_) (args_list_sort _)))
 exact⟨_,rfl,wpAny_pure ⟨_,rfl,hq _ h' c out (up _ k) (by rw[z1];exact Nat.le_succ _) p1 p2 e⟩⟩
end
noncomputable def Znj:Value->Int
 |.int i _=>i
 |_=>0
theorem Vd:∀{ns:List Int}{us:List Value},ZX (ns.map V.int) us->us.map Znj=ns/\∀u∈us,∃i t,u=Value.int i t
 |[],_,.nil=>⟨rfl,by simp⟩
 |n::ns,_,.cons (b:=u) r rr=>by
  obtain⟨t,rfl⟩:=r
  obtain⟨h1,h2⟩:=Vd rr
  refine⟨by rw[Ztg,h1];rfl,fun v hv=>?_⟩
  rcases ZsZ.mp hv with rfl|hv
  ·exact⟨n,t,rfl⟩
  ·exact h2 v hv
section
end
theorem Zag:∀{K:W.Frag}{H:Hp}{S:Addr->Prop}{ns:List Int}{vs:List V},Reps K H S (ns.map PV.int) vs->vs=ns.map V.int
 |_,_,_,[],_,h=>h
 |_,_,_,n::ns,_,⟨v,r,e,h1,h2⟩=>by
  have h1:v=V.int n:=h1
  rw[e,h1,Zag h2];rfl
section
end
noncomputable def ZjW (x:List Int):List (List Int)->List (List Int)
 |[]=>[x]
 |y::l=>if HT.ZD y x=true then y::ZjW x l else x::y::l
noncomputable def V3:List (List Int)->List (List Int)
 |[]=>[]
 |x::l=>ZjW x (V3 l)
noncomputable abbrev UpU (l:List (List Int)):Prop:=l.Pairwise fun a b=>HT.ZD b a=false
theorem QP (x:List Int):∀l,(ZjW x l).Perm (x::l)
 |[]=>List.Perm.refl _
 |y::l=>by
  unfold ZjW
  split
  ·exact((QP x l).cons y).trans (List.Perm.swap x y l)
  ·exact List.Perm.refl _
theorem ZA:∀l,(V3 l).Perm l
 |[]=>List.Perm.refl _
 |x::l=>(QP x _).trans ((ZA l).cons x)
theorem VE {a b c:List Int} (h1:HT.ZD b a=false) (h2:HT.ZD c b=false):HT.ZD c a=false:=by
 cases h:HT.ZD c a with
 |false=>rfl
 |true =>
  exfalso
  cases h3:HT.ZD a b with
  |true=>rw[HL.Uh h h3] at h2;cases h2
  |false=>rw[HL.JP h3 h1] at h;rw[h] at h2;cases h2
theorem QK {a b:List Int} (h:HT.ZD a b=true):HT.ZD b a=false:=by
 cases h2:HT.ZD b a with
 |false=>rfl
 |true=>have:=HL.Uh h h2;rw[HL.Qa] at this;cases this
theorem ZfK {x:List Int}:∀{l:List (List Int)},UpU l->UpU (ZjW x l)
 |[],_=>List.pairwise_singleton _ _
 |y::l,h=>by
  obtain⟨h1,h2⟩:=ZtJ.mp h
  unfold ZjW
  split
  ·rename_i e
   refine ZtJ.mpr ⟨fun z hz=>?_,ZfK h2⟩
   rcases ZsZ.mp ((QP x l).mem_iff.mp hz) with rfl|hz
   ·exact QK e
   ·exact h1 z hz
  ·rename_i e
   have e:=Bool.eq_false_iff.mpr e
   refine ZtJ.mpr ⟨fun z hz=>?_,h⟩
   rcases ZsZ.mp hz with rfl|hz
   ·exact e
   ·exact VE e (h1 z hz)
theorem UJ:∀l,UpU (V3 l)
 |[]=>List.Pairwise.nil
 |x::l=>ZfK (UJ l)
theorem Qh:∀{l m:List (List Int)},UpU l->UpU m->l.Perm m->l=m
 |[],m,_,_,p=>(List.nil_perm.mp p).symm
 |x::l,[],_,_,p=>absurd (List.perm_nil.mp p) (by simp)
 |x::l,y::m,h1,h2,p=>by
  obtain⟨a1,a2⟩:=ZtJ.mp h1
  obtain⟨b1,b2⟩:=ZtJ.mp h2
  have e:x=y:=by
   have hx:x∈y::m:=p.mem_iff.mp (by simp)
   have hy:y∈x::l:=p.mem_iff.mpr (by simp)
   rcases ZsZ.mp hx with z|z
   ·exact z
   ·rcases ZsZ.mp hy with z'|z'
    ·exact z'.symm
    ·exact HL.JP (b1 x z) (a1 y z')
  subst e
  rw[Qh a2 b2 (List.perm_cons _ |>.mp p)]
theorem ZiB {l m:List (List Int)} (p:l.Perm m):V3 l=V3 m:=Qh (UJ l) (UJ m) ((ZA l).trans (p.trans (ZA m).symm))
noncomputable def JH (ts:List PL2) (a:Addr):List Int:=((ts.find? fun t=>decide (t.1=a)).map (·.2)).getD []
theorem VW {ts:List PL2} (hu:∀t∈ts,∀t'∈ts,t.1=t'.1->t.2=t'.2) {t:PL2} (ht:t∈ts):JH ts t.1=t.2:=by
 unfold JH
 cases hf:ts.find? fun q=>decide (q.1=t.1) with
 |none=>exact absurd (decide_eq_true rfl) (Zuw.mp hf t ht)
 |some q =>
  have h1:=List.find?_some hf
  have h2:=List.mem_of_find?_eq_some hf
  exact hu q h2 t ht (of_decide_eq_true h1)
noncomputable def Vn:Value->Addr
 |.ref a=>a
 |_=>0
theorem Q0:∀{ts:List PL2}{us:List Value},ZX (ts.map fun t=>V.ref t.1) us->us=ts.map fun t=>Value.ref t.1
 |[],_,.nil=>rfl
 |t::ts,_,.cons r rr=>by
  have r:_=Value.ref t.1:=r
  rw[r,Q0 rr];rfl
theorem QA:∀(ts:List PL2),ZX (ts.map fun t=>V.ref t.1) (ts.map fun t=>Value.ref t.1)
 |[]=>.nil
 |t::ts=>.cons rfl (QA ts)
section
variable {X:Cx}
def Zfa (K:W.Frag):List V->Hp->VK->Prop:=fun xs H Q=>∃p,∃ts:List PL2,xs=[.ref p]/\SqL K H p (ts.map fun t=>V.ref t.1) /\
  (∀t∈ts,SqT K H t.1 (t.2.map V.int)/\t.2≠[])/\ts.length<=1000000/\∀l,H l=none->∀qs:List PL2,qs.Perm ts->UpU (qs.map (·.2))->Q (.ref l) (upd H l (.lst (qs.map fun t=>V.ref t.1)))
theorem Ze3:JJ X (.builtin "sorted") (Zfa X.K):=by
 intro pins s σ H xs us Q I r h
 obtain⟨p,ts,rfl,hq,hall,hz0,q⟩:=h
 obtain⟨u,rfl,rx⟩:=QY r
 cases rx
 obtain⟨its,r',pl,hz⟩:=I.list hq
 have hits:=Q0 r'
 subst hits
 have tup:∀(s1:Shared),(∀b o,s.heap.get? b=some o->s1.heap.get? b=some o)->∀t∈ts,∃vs:List Value,ZX (t.2.map V.int) vs/\IsTup s1.heap t.1 vs.toArray:=fun s1 k t ht=>by
  have I':Inv X pins σ H { s with heap:=s1.heap,toks:=s1.toks }:=I.kept k
  obtain⟨vs,rv,pt,_⟩:=I'.tuple (hall t ht).1
  exact⟨vs,rv,pt⟩
 have hu:∀t∈ts,∀t'∈ts,t.1=t'.1->t.2=t'.2:=fun t ht t' ht' e=>by
  obtain⟨vs,rv,ob,eo,oc,k1,od⟩:=tup s (fun _ _ h=>h) t ht
  obtain⟨vs',rv',ob',eo',oc',k1',od'⟩:=tup s (fun _ _ h=>h) t' ht'
  rw[e,eo'] at eo
  cases eo
  rw[od] at od'
  have e2:vs.toArray=vs'.toArray:=by injection od'
  have e3:vs=vs':=by simpa using e2
  subst e3
  rw[<- (Vd rv).1,<- (Vd rv').1]
 refine Q7 (tuples' true) (fun x y=>HT.ZD (JH ts (Vn x)) (JH ts (Vn y))) pl.isList (by simpa using hz0) (fun h2 s1 Q' k q'=>?_) (fun s1 x y hx hy k C q'=>?_) (fun x y _ _ h=>QK h) (fun x y z _ _ _ h1 h2=>VE h1 h2) fun D h' c out k hD p1 p2 e=>?_
 ·have:∀(ts:List PL2) (its:List Value),(∀t∈ts,t.2≠[]/\∃vs:List Value,ZX (t.2.map V.int) vs/\IsTup s1.heap t.1 vs.toArray)->ZX (ts.map fun t=>V.ref t.1) its->∃fs:List Value,fs.length=ts.length/\PySem.W.KatTups s1.heap its fs/\∀v∈fs,∃n t,v=Value.int n t:=by
   intro ts
   induction ts with
   |nil =>
    intro its _ rv
    cases rv
    exact⟨[],rfl,trivial,by simp⟩
   |cons t ts ih =>
    intro its ht rv
    cases rv with
    |cons rv tv =>
     obtain⟨fs,e1,e2,e3⟩:=ih _ (fun t' h'=>ht t' (Ztx _ h')) tv
     obtain⟨hne,vs,rvs,ob,eo,oc,k,od⟩:=ht t (ZtG ..)
     obtain⟨n,ns,en⟩:=List.exists_cons_of_ne_nil hne
     rw[en] at rvs
     cases rvs with
     |cons rn tn =>
      obtain⟨tk,rfl⟩:=rn
      have rv':_=Value.ref t.1:=rv
      subst rv'
      exact⟨.int n tk::fs,by simp[e1],⟨⟨t.1,ob,_,k,rfl,eo,oc,od,rfl⟩,e2⟩,fun v hv=>(ZsZ.mp hv).elim (fun z=>⟨n,tk,z⟩) (e3 v)⟩
  obtain⟨fs,e1,e2,e3⟩:=this ts _ (fun t ht=>⟨(hall t ht).2,tup s1 k t ht⟩) r'
  exact PySem.W.kat_kind (T:=.type "int") e2 (by rw[e1];simp at h2;omega) (fun v hv=>by obtain⟨n,t,rfl⟩:=e3 v hv;exact PySem.W.Looks.of_pure rfl) rfl q'
 ·obtain⟨t,ht,rfl⟩:=Ztm.mp hx
  obtain⟨t',ht',rfl⟩:=Ztm.mp hy
  obtain⟨vs,rv,ob,eo,oc,k1,od⟩:=tup s1 k t ht
  obtain⟨vs',rv',ob',eo',oc',k1',od'⟩:=tup s1 k t' ht'
  refine PySem.W.kat_lt eo od eo' od' (ZdC rv rv' ?_ ?_)
  ·simp
  ·rw[show Vn (.ref t.1)=t.1 from rfl,show Vn (.ref t'.1)=t'.1 from rfl,VW hu ht,VW hu ht'] at q'
   exact q'
 ·have ho:∀u∈out,∃t∈ts,u=Value.ref t.1:=fun u hu=>by
   obtain⟨t,ht,e⟩:=Ztm.mp (p1.mem_iff.mp hu)
   exact⟨t,ht,e.symm⟩
  have hp:(out.map fun v=>((Vn v,JH ts (Vn v)):PL2)).Perm ts:=by
   have h1:=p1.map fun v=>((Vn v,JH ts (Vn v)):PL2)
   rw[Zt6] at h1
   have h2:ts.map ((fun v=>((Vn v,JH ts (Vn v)):PL2))∘fun t=>Value.ref t.1)=ts:=by
    have:ts.map ((fun v=>((Vn v,JH ts (Vn v)):PL2))∘fun t=>Value.ref t.1)=ts.map id:=ZtU fun t ht=>by
     show ((t.1,JH ts t.1):PL2)=t
     rw[VW hu ht]
    rw[this,ZuJ]
   rw[h2] at h1
   exact h1
  have hup:UpU ((out.map fun v=>((Vn v,JH ts (Vn v)):PL2)).map (·.2)):=by
   rw[Zt6]
   exact Zub.mpr (p2.imp fun h=>h)
  have hout:out=(out.map fun v=>((Vn v,JH ts (Vn v)):PL2)).map fun t=>Value.ref t.1:=by
   rw[Zt6]
   have:out.map ((fun(t:PL2)=>Value.ref t.1)∘fun v=>((Vn v,JH ts (Vn v)):PL2))=out.map id:=ZtU fun u hu=>by
    obtain⟨t,ht,rfl⟩:=ho u hu
    rfl
   rw[this,ZuJ]
  generalize (out.map fun v=>((Vn v,JH ts (Vn v)):PL2))=qs at hp hup hout
  have I1:Inv X pins σ (upd H D (.lst (qs.map fun t=>V.ref t.1))) { s with heap:=h' }:=by
   refine I.laid (t':=s.toks) k hD ⟨?_,_,c, ?_,e⟩
   ·rw[ZsV,hp.length_eq];exact VQ hz0
   ·rw[hout];exact QA qs
  exact⟨.ref D,_,I1,rfl,q D (I.hok.fresh hD) qs hp hup⟩
theorem ZcK {K:W.Frag} (e:X.K=K:=by rfl):JJ X (.builtin "sorted") (Zfa K):=by subst e;exact Ze3
end
def OkU (ts:List (List Int)):Prop:=(∀t∈ts,t≠[])/\ts.length<=1000000
open Classical in
noncomputable def Zdv (xs:List PV):Rr PV:=if h:∃ts:List (List Int),xs=[.lst (ts.map Jd)]/\OkU ts then newF ((V3 h.choose).map Jd) else .bad
theorem Zfm {ts:List (List Int)} (h:OkU ts):Zdv [.lst (ts.map Jd)]=newF ((V3 ts).map Jd):=by
 have hex:∃us:List (List Int),[PV.lst (ts.map Jd)]=[.lst (us.map Jd)]/\OkU us:=⟨ts,rfl,h⟩
 unfold Zdv
 rw[dif_pos hex]
 have hs:ts.map Jd=hex.choose.map Jd:=PV.lst.inj (List.cons.inj hex.choose_spec.1).1
 have e:hex.choose=ts:=(Ut hs).symm
 rw[e]
section
variable {K:W.Frag}{B:Addr->Prop}{EX:PX->Hp->Prop}{H0 H:Hp}{σ:St}{Γ Γ':List Md}{ρ:List PV}{F:Nat->List Addr}{R:List Addr}{ta:TA}{fa:List PV->Rr (List PV)}
theorem Zaf {S:Addr->Prop}:∀{ts:List (List Int)}{vs:List V},Reps K H S (ts.map Jd) vs->∃qs:List PL2,vs=(qs.map fun t=>V.ref t.1)/\(qs.map fun t=>t.2)=ts/\∀t∈qs,SqT K H t.1 (t.2.map V.int)/\Rep K H S (Jd t.2) (V.ref t.1)
 |[],vs,h=>⟨[],h,rfl,by simp⟩
 |ns::ts,vs,h=>by
  obtain⟨v,r,rfl,h1,h2⟩:=h
  obtain⟨qs,rfl,e2,e3⟩:=Zaf h2
  have h1':=h1
  obtain⟨a,ws,rfl,hn,hr⟩:=h1
  have:=Q9 hr
  subst this
  refine⟨(a,ns)::qs,rfl,by rw[Ztg,e2],fun t ht=>?_⟩
  rcases ZsZ.mp ht with rfl|ht
  ·exact⟨hn.sqT,h1'⟩
  ·exact e3 t ht
theorem ZeW {S:Addr->Prop}:∀{qs:List PL2},(∀t∈qs,Rep K H S (Jd t.2) (V.ref t.1))->Reps K H S ((qs.map (·.2)).map Jd) (qs.map fun t=>V.ref t.1)
 |[],_=>rfl
 |t::qs,h=>⟨_,_,rfl,h t (ZtG ..),ZeW fun q hq=>h q (Ztx _ hq)⟩
theorem ZhC (ha:DAA K EX Γ Γ' ta fa):DE K EX Γ Γ' .F (tCB (Zfa K) ta) (fun ρ=>(fa ρ).bind Zdv):=fun B H0 H σ ρ F R Q A d=>by
 refine ha B H0 H σ ρ F R _ A (d.bind.imp (fun xs _ d vs H1 F1 s1 f1 p1 A1=>?_) fun e q=>q)
 unfold Zdv at d
 split at d
 ·rename_i hex
  have hs:=hex.choose_spec
  generalize hex.choose=ts at d hs
  obtain⟨rfl,hne,hl⟩:=hs
  obtain⟨h1,h2,d⟩:=Dn.newF d
  obtain⟨v,rfl,a,ws,rfl,hn,hr⟩:=UL p1
  obtain⟨qs,rfl,rfl,e3⟩:=Zaf hr
  refine⟨a,qs,rfl,V5 (S:=fun _=>True) hn,fun t ht=>⟨(e3 t ht).1,hne _ (List.mem_map_of_mem ht)⟩,by simpa using hl,fun l hz zs hp hup=>?_⟩
  have e:V3 (qs.map (·.2))=zs.map (·.2):=Qh (UJ _) hup ((ZA _).trans (hp.map (·.2)).symm)
  have pr:=ZeW (K:=K) (H:=H1) (S:=fun _=>True) (qs:=zs) fun t ht=>(e3 t (hp.mem_iff.mp ht)).2
  rw[<- e] at pr
  exact d _ _ (s1.trans (Zw.new hz)) (Res.newP s1 f1 pr h1 A1 hz)
 ·exact d.elim
end
section
end
section
variable {prog:Program}{w:World}{A:Around}{E:Value->Shared->Prop}{s:Shared}
theorem ZfC {l b:Addr}{its its2:List Value}{ns ms:List Int}{Q:Bool->Shared->Prop} (hl:s.heap.IsList l its.toArray) (hb:s.heap.IsList b its2.toArray) (r:ZX (ns.map V.int) its) (r2:ZX (ms.map V.int) its2) (hu:A.units<cLine) (q:Q (HT.ZD ns ms) s) :
  wpAny (model prog w) A (keyLt' oneType' (.ref l) (.ref b)) Q E s:=by
 obtain⟨⟨cls,dd,data,sl⟩,ho,hc,n,hd⟩:=id hl
 obtain⟨⟨cls2,dd2,data2,sl2⟩,ho2,hc2,n2,hd2⟩:=id hb
 simp only at hc hd hc2 hd2
 subst hc hd hc2 hd2
 rw[keyLt'_oneType,oneLt'_eq,if_pos rfl]
 refine wpAny_bind (wpAny_cRoomFor hu (wpAny_bind (wpAny_callSpecialIfBound?_slot ⟨_,ho,rfl⟩ PySem.F.slot_list_lt (call_meets PySem.F.slot_list_lt ⟨_,ho,rfl⟩ PySem.F.entry_list_lt (PySem.F.args_list_lt_2 _ _) (HL.UZ l b its.toArray its2.toArray n n2 dd dd2 sl sl2 ns ms (by simpa using JM r) (by simpa using JM r2)) ⟨ho,ho2, ?_⟩))))
 exact wpAny_truthy_bool q
end
section
variable {X:Cx}
def Zfb (K:W.Frag):List V->Hp->VK->Prop:=fun xs H Q=>∃p,∃ts:List PL2,xs=[.ref p]/\SqL K H p (ts.map fun t=>V.ref t.1) /\
  (∀t∈ts,SqL K H t.1 (t.2.map V.int))/\ts.length<=1000000/\∀l,H l=none->∀qs:List PL2,qs.Perm ts->UpU (qs.map (·.2))->Q (.ref l) (upd H l (.lst (qs.map fun t=>V.ref t.1)))
theorem Ze4 (hu:X.A.units+64<cLine):JJ X (.builtin "sorted") (Zfb X.K):=by
 intro pins s σ H xs us Q I r h
 obtain⟨p,ts,rfl,hq,hall,hz0,q⟩:=h
 obtain⟨u,rfl,rx⟩:=QY r
 cases rx
 obtain⟨its,r',pl,hz⟩:=I.list hq
 have hits:=Q0 r'
 subst hits
 have lis:∀(s1:Shared),(∀b o,s.heap.get? b=some o->s1.heap.get? b=some o)->∀t∈ts,∃vs:List Value,ZX (t.2.map V.int) vs/\s1.heap.IsList t.1 vs.toArray:=fun s1 k t ht=>by
  have I':Inv X pins σ H { s with heap:=s1.heap,toks:=s1.toks }:=I.kept k
  obtain⟨vs,rv,pt,_⟩:=I'.list (hall t ht)
  exact⟨vs,rv,pt.isList⟩
 have hun:∀t∈ts,∀t'∈ts,t.1=t'.1->t.2=t'.2:=fun t ht t' ht' e=>by
  obtain⟨vs,rv,ob,eo,oc,k1,od⟩:=lis s (fun _ _ h=>h) t ht
  obtain⟨vs',rv',ob',eo',oc',k1',od'⟩:=lis s (fun _ _ h=>h) t' ht'
  rw[e,eo'] at eo
  cases eo
  rw[od] at od'
  have e2:vs.toArray=vs'.toArray:=by injection od'
  have e3:vs=vs':=by simpa using e2
  subst e3
  rw[<- (Vd rv).1,<- (Vd rv').1]
 refine Q7 oneType' (fun x y=>HT.ZD (JH ts (Vn x)) (JH ts (Vn y))) pl.isList (by simpa using hz0) (fun h2 s1 Q' k q'=>?_) (fun s1 x y hx hy k C q'=>?_) (fun x y _ _ h=>QK h) (fun x y z _ _ _ h1 h2=>VE h1 h2) fun D h' c out k hD p1 p2 e=>?_
 ·refine PySem.W.kas_kind (T:=.type "list") h2 (fun v hv=>?_) rfl rfl q'
  obtain⟨t,ht,rfl⟩:=Ztm.mp hv
  obtain⟨vs,rv,ob,eo,oc,_⟩:=lis s1 k t ht
  intro A' Q2 E2 s2 k2 q2
  exact wpAny_typeOf ⟨ob,k2 _ _ eo,oc⟩ q2
 ·obtain⟨t,ht,rfl⟩:=Ztm.mp hx
  obtain⟨t',ht',rfl⟩:=Ztm.mp hy
  obtain⟨vs,rv,p3⟩:=lis s1 k t ht
  obtain⟨vs',rv',p4⟩:=lis s1 k t' ht'
  rw[show Vn (.ref t.1)=t.1 from rfl,show Vn (.ref t'.1)=t'.1 from rfl,VW hun ht,VW hun ht'] at q'
  exact ZfC p3 p4 rv rv' (by show X.A.units+1+1<cLine;omega) q'
 ·have ho:∀u∈out,∃t∈ts,u=Value.ref t.1:=fun u hu=>by
   obtain⟨t,ht,e⟩:=Ztm.mp (p1.mem_iff.mp hu)
   exact⟨t,ht,e.symm⟩
  have hp:(out.map fun v=>((Vn v,JH ts (Vn v)):PL2)).Perm ts:=by
   have h1:=p1.map fun v=>((Vn v,JH ts (Vn v)):PL2)
   rw[Zt6] at h1
   have h2:ts.map ((fun v=>((Vn v,JH ts (Vn v)):PL2))∘fun t=>Value.ref t.1)=ts:=by
    have:ts.map ((fun v=>((Vn v,JH ts (Vn v)):PL2))∘fun t=>Value.ref t.1)=ts.map id:=ZtU fun t ht=>by
     show ((t.1,JH ts t.1):PL2)=t
     rw[VW hun ht]
    rw[this,ZuJ]
   rw[h2] at h1
   exact h1
  have hup:UpU ((out.map fun v=>((Vn v,JH ts (Vn v)):PL2)).map (·.2)):=by
   rw[Zt6]
   exact Zub.mpr (p2.imp fun h=>h)
  have hout:out=(out.map fun v=>((Vn v,JH ts (Vn v)):PL2)).map fun t=>Value.ref t.1:=by
   rw[Zt6]
   have:out.map ((fun(t:PL2)=>Value.ref t.1)∘fun v=>((Vn v,JH ts (Vn v)):PL2))=out.map id:=ZtU fun u hu=>by
    obtain⟨t,ht,rfl⟩:=ho u hu
    rfl
   rw[this,ZuJ]
  generalize (out.map fun v=>((Vn v,JH ts (Vn v)):PL2))=qs at hp hup hout
  have I1:Inv X pins σ (upd H D (.lst (qs.map fun t=>V.ref t.1))) { s with heap:=h' }:=by
   refine I.laid (t':=s.toks) k hD ⟨?_,_,c, ?_,e⟩
   ·rw[ZsV,hp.length_eq];exact VQ hz0
   ·rw[hout];exact QA qs
  exact⟨.ref D,_,I1,rfl,q D (I.hok.fresh hD) qs hp hup⟩
theorem ZcL {K:W.Frag} (hu:X.A.units+64<cLine) (e:X.K=K:=by rfl):JJ X (.builtin "sorted") (Zfb K):=by subst e;exact Ze4 hu
end
open Classical in
noncomputable def Zdw (x:PV):Rr PV:=if h:∃ts:List (List Int),x=.lst (ts.map Jy)/\ts.length<=1000000 then .ok (.lst ((V3 h.choose).map Jy)) else .bad
theorem Zfn {ts:List (List Int)} (h:ts.length<=1000000):Zdw (.lst (ts.map Jy))=.ok (.lst ((V3 ts).map Jy)):=by
 have hex:∃us:List (List Int),PV.lst (ts.map Jy)=.lst (us.map Jy)/\us.length<=1000000:=⟨ts,rfl,h⟩
 unfold Zdw
 rw[dif_pos hex]
 have hs:ts.map Jy=hex.choose.map Jy:=PV.lst.inj hex.choose_spec.1
 have e:hex.choose=ts:=(Zf8 hs).symm
 rw[e]
section
variable {K:W.Frag}{B:Addr->Prop}{EX:PX->Hp->Prop}{H0 H:Hp}{σ:St}{Γ:List Md}{ρ:List PV}{F:Nat->List Addr}{R:List Addr}
theorem Q8 {S:Addr->Prop}:∀{ts:List (List Int)}{vs:List V},Reps K H S (ts.map Jy) vs->∃qs:List PL2,vs=(qs.map fun t=>V.ref t.1)/\(qs.map fun t=>t.2)=ts/\∀t∈qs,SqL K H t.1 (t.2.map V.int)/\Rep K H S (Jy t.2) (V.ref t.1)
 |[],vs,h=>⟨[],h,rfl,by simp⟩
 |ns::ts,vs,h=>by
  obtain⟨v,r,rfl,h1,h2⟩:=h
  obtain⟨qs,rfl,e2,e3⟩:=Q8 h2
  have h1':=h1
  obtain⟨a,ws,rfl,hn,hr⟩:=h1
  have:=Zag hr
  subst this
  refine⟨(a,ns)::qs,rfl,by rw[Ztg,e2],fun t ht=>?_⟩
  rcases ZsZ.mp ht with rfl|ht
  ·exact⟨V5 (S:=S) hn,h1'⟩
  ·exact e3 t ht
theorem Zdl {S:Addr->Prop}:∀{qs:List PL2},(∀t∈qs,Rep K H S (Jy t.2) (V.ref t.1))->Reps K H S ((qs.map (·.2)).map Jy) (qs.map fun t=>V.ref t.1)
 |[],_=>rfl
 |t::qs,h=>⟨_,_,rfl,h t (ZtG ..),Zdl fun q hq=>h q (Ztx _ hq)⟩
theorem Zgc {i:Nat} (hm:Γ[i]?=some .T):DE K EX Γ Γ .T (tCB (Zfb K) (VX (QW i) Zbe)) (fun ρ=>Zdw (gv i ρ)):=fun B H0 H σ ρ F R Q A d=>by
 obtain⟨a,vs,xs,h1,h2,h3,h4,h5⟩:=A.getT hm
 simp only at d
 rw[show gv i ρ=.lst xs from h2] at d
 unfold Zdw at d
 split at d
 ·rename_i hex
  have hs:=hex.choose_spec
  generalize hex.choose=ts at d hs
  obtain⟨e,hl⟩:=hs
  have e:xs=ts.map Jy:=PV.lst.inj e
  subst e
  obtain⟨qs,rfl,rfl,e3⟩:=Q8 h4
  refine⟨.ref a,h1,a,qs,rfl,SqL.of h3,fun t ht=>(e3 t ht).1,by simpa using hl,fun l hz zs hp hup=>?_⟩
  have e:V3 (qs.map (·.2))=zs.map (·.2):=Qh (UJ _) hup ((ZA _).trans (hp.map (·.2)).symm)
  have pr:=Zdl (K:=K) (H:=H) (S:=NO B F R) (qs:=zs) fun t ht=>(e3 t (hp.mem_iff.mp ht)).2
  rw[<- e] at pr
  exact d _ _ (Zw.new hz) (Res.newT (Zw.refl H) (fun _ _ z=>z) pr A hz)
 ·exact d.elim
end
section
variable {K:W.Frag}{H:Hp}
theorem Trees.partN:∀{xs:List PV}{vs:List V}{G:List Addr}{j:Nat}{y:PV},Trees K H xs vs G->xs[j]?=some y->∃v G2,vs[j]?=some v/\ZW K H y v G2/\(∀a∈G2,a∈G) /\
  ∀(l p:Addr) (us:List V) (o:HO) (y':PV) (G3:List Addr),H l=none->H p=some (.lst us)->p∈G2->(∀a∈G3,a∈G2\/a=l)->ZW K (upd (upd H l (.lst [])) p o) y' v G3->∃G',(∀a∈G',a∈G\/a=l)/\Trees K (upd (upd H l (.lst [])) p o) (xs.set j y') vs G'
 |[],_,_,_,_,_,e=>by simp at e
 |x::xs,_,_,0,y,h,e=>by
  obtain⟨w,r,G1,G2,rfl,h1,h2,h3,rfl⟩:=h
  simp at e;subst e
  refine⟨w,G1,rfl,h1,fun a ha=>by simp[ha],fun l p us o y' G3 hl hp hpG hs ht=>?_⟩
  have hpl:p≠l:=fun z=>by rw[z,hl] at hp;cases hp
  have hp':upd H l (.lst []) p=some (.lst us):=by rw[Zr hpl];exact hp
  have hlG:l ∉ G2:=fun z=>by obtain⟨vs,q⟩:=h2.alive l z;rw[hl] at q;cases q
  refine⟨G3++G2,fun a ha=>?_,w,r,G3,G2,rfl,ht,Trees.put hp' (h3 p hpG) (h2.same (Zw.new hl)),fun a ha z=>?_,rfl⟩
  ·rcases ZsS.mp ha with z|z
   ·rcases hs a z with z|z
    ·simp[z]
    ·exact .inr z
   ·simp[z]
  ·rcases hs a ha with q|q
   ·exact h3 a q z
   ·rw[q] at z;exact hlG z
 |x::xs,_,_,j+1,y,h,e=>by
  obtain⟨w,r,G1,G2,rfl,h1,h2,h3,rfl⟩:=h
  obtain⟨v,G4,e1,e2,e3,e4⟩:=Trees.partN h2 (j:=j) (by simpa using e)
  refine⟨v,G4,by simpa using e1,e2,fun a ha=>by simp[e3 a ha],fun l p us o y' G3 hl hp hpG hs ht=>?_⟩
  obtain⟨G',c2,c3⟩:=e4 l p us o y' G3 hl hp hpG hs ht
  have hpl:p≠l:=fun z=>by rw[z,hl] at hp;cases hp
  have hp':upd H l (.lst []) p=some (.lst us):=by rw[Zr hpl];exact hp
  have hlG:l ∉ G1:=fun z=>by obtain⟨vs,q⟩:=h1.alive l z;rw[hl] at q;cases q
  refine⟨G1++G',fun a ha=>?_,w,r,G1,G',rfl,ZW.put hp' (fun z=>h3 p z (e3 p hpG)) (h1.same (Zw.new hl)),c3,fun a ha z=>?_,rfl⟩
  ·rcases ZsS.mp ha with z|z
   ·simp[z]
   ·rcases c2 a z with z|z
    ·simp[z]
    ·exact .inr z
  ·rcases c2 a z with q|q
   ·exact h3 a ha q
   ·rw[q] at ha;exact hlG ha
theorem ZW.chgN:∀{cs:List Int}{x x':PV}{v:V}{G:List Addr},ZW K H x v G->pGo (fun z=>pApp z (.lst [])) x cs=.ok x' ->
  ∃p us,AtP K H v cs (.ref p)/\H p=some (.lst us)/\us.length<sizeLine/\p∈G/\∀l,H l=none->∃G',(∀a∈G',a∈G\/a=l)/\ZW K (upd (upd H l (.lst [])) p (.lst (us++[.ref l]))) x' v G'
 |[],x,x',v,G,h,e=>by
  have d:Dn (pApp x (.lst [])) (fun y=>y=x') (fun _=>False):=by
   have e:pApp x (.lst [])=.ok x':=by cases x<;>exact e
   rw[e];exact rfl
  obtain⟨ys,rfl,hlen,rfl⟩:=Dn.pApp d
  obtain⟨p,us,G4,rfl,hH,hu,hn,rfl⟩:=h
  refine⟨p,us,rfl,hH,by rw[hu.length];exact Ztc hlen (by decide),by simp,fun l hl=>?_⟩
  have hpl:p≠l:=fun z=>by rw[z,hl] at hH;cases hH
  have hH':upd H l (.lst []) p=some (.lst us):=by rw[Zr hpl];exact hH
  have hlG:l ∉ G4:=fun z=>by obtain⟨vs,q⟩:=hu.alive l z;rw[hl] at q;cases q
  refine⟨p::(G4++[l]),fun b hb=>?_,p,_,G4++[l],rfl,Z2, ?_,fun z=>?_,rfl⟩
  ·simp only[ZsZ,ZsS,ZuU,or_false] at hb ⊢
   rcases hb with z|z|z
   ·exact .inl (.inl z)
   ·exact .inl (.inr z)
   ·exact .inr z
  ·refine Trees.append (Trees.put (o:=.lst (us++[.ref l])) hH' hn (hu.same (Zw.new hl))) (Trees.one (x:=.lst []) (v:=.ref l) (F:=[l]) ⟨l,[],[],rfl, ?_,⟨rfl,rfl⟩,by simp,rfl⟩) (fun a ha z=>?_)
   ·rw[Zr (Ne.symm hpl),Z2]
   ·rw[Zti.mp z] at ha;exact hlG ha
  ·rcases ZsS.mp z with z|z
   ·exact hn z
   ·exact hpl (Zti.mp z)
 |c::cs,.lst xs,x',v,G,h,e=>by
  simp only[pGo] at e
  cases en:ixN xs.length c with
  |none=>rw[en] at e;cases e
  |some n =>
   rw[en] at e
   dsimp only at e
   cases ez:pGo (fun z=>pApp z (.lst [])) (xs.getD n .non) cs with
   |bad=>rw[ez] at e;cases e
   |exc q=>rw[ez] at e;cases e
   |ok z =>
    rw[ez] at e
    cases e
    have hnl:=(UR en).2.1
    have hx:xs[n]?=some (xs.getD n .non):=by rw[ZsO,ZsP hnl];rfl
    obtain⟨a,vs,G1,rfl,ha,ht,hna,rfl⟩:=h
    obtain⟨w,G2,e1,e2,e3,e4⟩:=ht.partN hx
    obtain⟨p,us,p1,p2,p3,p4,p5⟩:=ZW.chgN e2 ez
    refine⟨p,us,⟨a,vs,w,rfl,.inl (SqL.of ha),by unfold atI;rw[ht.length,en];exact e1,p1⟩,p2,p3,by simp[e3 p p4],fun l hl=>?_⟩
    obtain⟨G3,p6,p7⟩:=p5 l hl
    obtain⟨G',c2,c3⟩:=e4 l p us _ _ G3 hl p2 p4 p6 p7
    have hal:a≠l:=fun z=>by rw[z,hl] at ha;cases ha
    refine⟨a::G',fun b hb=>?_,a,vs,G',rfl, ?_,c3,fun z=>?_,rfl⟩
    ·rcases ZsZ.mp hb with rfl|hb
     ·simp
     ·rcases c2 b hb with z|z
      ·simp[z]
      ·exact .inr z
    ·rw[Zr (fun z=>hna (by rw[z];exact e3 p p4)),Zr hal];exact ha
    ·rcases c2 a z with z|z
     ·exact hna z
     ·exact hal z
 |c::cs,.tup xs,x',v,G,h,e=>by
  simp only[pGo] at e
  cases en:ixN xs.length c with
  |none=>rw[en] at e;cases e
  |some n =>
   rw[en] at e
   dsimp only at e
   cases ez:pGo (fun z=>pApp z (.lst [])) (xs.getD n .non) cs with
   |bad=>rw[ez] at e;cases e
   |exc q=>rw[ez] at e;cases e
   |ok z =>
    rw[ez] at e
    cases e
    have hnl:=(UR en).2.1
    have hx:xs[n]?=some (xs.getD n .non):=by rw[ZsO,ZsP hnl];rfl
    obtain⟨a,vs,rfl,ha,ht⟩:=h
    obtain⟨w,G2,e1,e2,e3,e4⟩:=ht.partN hx
    obtain⟨p,us,p1,p2,p3,p4,p5⟩:=ZW.chgN e2 ez
    refine⟨p,us,⟨a,vs,w,rfl,.inr ha.sqT,by unfold atI;rw[ht.length,en];exact e1,p1⟩,p2,p3,e3 p p4,fun l hl=>?_⟩
    obtain⟨G3,p6,p7⟩:=p5 l hl
    obtain⟨G',c2,c3⟩:=e4 l p us _ _ G3 hl p2 p4 p6 p7
    have hpl:p≠l:=fun z=>by rw[z,hl] at p2;cases p2
    exact⟨G',c2,a,vs,rfl,SqT.put (by rw[Zr hpl];exact p2) ((Zw.new hl).im ha),c3⟩
 |_::_,.non,_,_,_,_,e=>by cases e
 |_::_,.bl _,_,_,_,_,e=>by cases e
 |_::_,.int _,_,_,_,_,e=>by cases e
 |_::_,.str _,_,_,_,_,e=>by cases e
 |_::_,.exc _,_,_,_,_,e=>by cases e
 |_::_,.exa _ _,_,_,_,_,e=>by cases e
 |_::_,.box _ _ _,_,_,_,_,e=>by cases e
variable {Γ Γ1 Γ2:List Md}{i:Nat}{tp:TE}{ix:List PV->Rr (List Int)}{EX:PX->Hp->Prop}{k:Kd}
theorem Zc6 (hm:Γ[i]?=some .O) (hp:DPa K Γ i tp ix):DS K EX Γ ⟨Γ,Γ1,Γ2,k⟩ (Zbl (tBM K "list" UM tp (VX (Zkk Zbe) Zbe)))
  (fun ρ=>(ix ρ).thenS fun cs=>(pGo (fun z=>pApp z (.lst [])) (gv i ρ) cs).thenS fun w=>.next (ρ.set i w)):=fun B H0 H σ ρ F D A d=>by
 have d1:=d.thenS
 cases ec:ix ρ with
 |bad=>rw[ec] at d1;exact d1.elim
 |exc q=>exact(hp.1 ρ q ec).elim
 |ok cs =>
  rw[ec] at d1
  have d2:=DnS.thenS d1
  obtain⟨v,h1,h2⟩:=A.getO hm
  cases ep:pGo (fun z=>pApp z (.lst [])) (gv i ρ) cs with
  |bad=>rw[ep] at d2;exact d2.elim
  |exc q=>exact(Uz (fun x e=>Zan _ _ e) _ _ _ ep).elim
  |ok w =>
   rw[ep] at d2
   obtain⟨p,us,p1,p2,p3,c1,c2⟩:=ZW.chgN h2 ep
   refine hp.2 B H0 H σ ρ F [] cs v (.ref p) _ A ec h1 p1 ⟨.inl ⟨rfl,_,SqL.of p2⟩,Ztp _,fun l hl=>?_⟩
   obtain⟨G',c3,c4⟩:=c2 l hl
   have hpl:p≠l:=fun z=>by rw[z,hl] at p2;cases p2
   refine⟨p,us,.ref l,rfl,rfl,by rw[Zr hpl];exact p2,p3, ?_⟩
   exact d2 σ _ (JS F i G') (VH (Zw.new hl) (fun _ _ h=>h) c1 fun b hb=>(c3 b hb).elim (fun z=>.inr ⟨i,z⟩) (fun z=>.inl (by rw[z];exact hl)))
    (Ag.chg (G:=[l]) (A.new (xs:=[]) hl) hm c1 (fun b hb=>(c3 b hb).imp_right fun z=>by rw[z];simp) (by simp) ⟨_,h1,c4⟩)
end
section
variable {K:W.Frag}{EX:PX->Hp->Prop}{Γ Γ1 Γ2 Γt:List Md}{tt:TT}{c:List PV->Rr Bool}
theorem Zez {i l:Nat} (hm:Γ[i]?=some .O) (hl:Γ[l]?=some .U) (hil:l≠i) (ht:DT K EX ((Γ.set i .S).set l .S) Γt tt c) :
  DS K EX Γ ⟨Γ,Γ1,Γ2,.P⟩ (Zmk (ZfL K (QW i)) (Zad l) (ZlQ tt (Zkh (tC (.bl false))) Zi8)) (fun ρ=>(asL (gv i ρ)).thenS fun xs=>Uo (fun x ρ=>(c (ρ.set l x)).thenS fun b=>if b=true then .ret (.bl false) else .next (ρ.set l x)) xs ρ):=fun B H0 H σ ρ F D A d=>by
 obtain⟨xs,exs,d⟩:=Dn.asL d.thenS
 obtain⟨v,h1,h2⟩:=A.getO hm
 rw[show ρ.getD i .non=.lst xs from exs] at h2
 obtain⟨a,vs,G,rfl,hH,htr,hn,hF⟩:=h2
 have hlen:vs.length=xs.length:=htr.length
 refine⟨.ref a,h1,a,rfl,⟨_,SqL.of hH⟩,fun j m σ' H'=>∃ρ',m=xs.length-j/\j<=xs.length/\Zw H H'/\Ag K B H0 H' σ' Γ ρ' F []/\gv i ρ'=.lst xs/\σ'[i]?=some (some (.ref a))/\DnS K B EX ⟨Γ,Γ1,Γ2,.P⟩ H0 H' F D (Uo (fun x ρ=>(c (ρ.set l x)).thenS fun b=>if b=true then .ret (.bl false) else .next (ρ.set l x)) (xs.drop j) ρ'),
  ⟨xs.length,ρ,by simp,Ztp _,Zw.refl H,A,exs,h1,by simpa using d⟩, ?_⟩
 rintro j m σ' H' ⟨ρ',rfl,hj,sm,A',ex',hs',dn⟩
 have hH':H' a=some (.lst vs):=sm a _ hH
 have tr':Trees K H' xs vs G:=htr.same sm
 cases hx:xs[j]? with
 |none =>
  have hd:xs.drop j=[]:=ZtE (Zt3.mp hx)
  rw[hd] at dn
  refine .inl ⟨⟨vs,SqL.of hH',by have:=Zt3.mp hx;omega⟩,dn σ' H' F Frm.refl A'⟩
 |some x =>
  have hlt:j<xs.length:=(ZsR.mp hx).1
  have hdx:xs.drop j=x::xs.drop (j+1):=by
   rw[Zth hlt]
   rw[ZsP hlt] at hx;cases hx;rfl
  rw[hdx] at dn
  simp only[Uo] at dn
  have hGi:∀b∈G,b∈F i:=fun b hb=>by rw[hF];simp[hb]
  have rp:Reps K H' (NO B (JS F i []) []) xs vs:=tr'.reps fun b hb=>A'.noF (hGi b hb)
  obtain⟨w,hw,hr⟩:=rp.get hx
  refine .inr ⟨⟨vs,w,SqL.of hH',hw⟩,fun σ2 H2=>∃ρ2,Zw H H2/\Ag K B H0 H2 σ2 Γ ρ2 F []/\gv i ρ2=.lst xs/\σ2[i]?=some (some (.ref a))/\DnS K B EX ⟨Γ,Γ1,Γ2,.P⟩ H0 H2 F D (Uo (fun x ρ=>(c (ρ.set l x)).thenS fun b=>if b=true then .ret (.bl false) else .next (ρ.set l x)) (xs.drop (j+1)) ρ2),
   fun σ2 H2 ⟨ρ2,a1,a2,a3,a4,a5⟩=>⟨xs.length-(j+1),by omega,ρ2,rfl,hlt,a1,a2,a3,a4,a5⟩,fun u H3 y=>?_⟩
  obtain⟨e3,yl⟩:=y
  subst e3
  have eu:=yl vs (SqL.of hH')
  rw[hw] at eu;cases eu
  have Af:=A'.freeze hm (by decide)
  have hll:l<(Γ.set i .S).length:=by rw[ZtH];exact A'.lt hl
  have At:=Ag.put (i:=l) (m:=.S) (x:=x) (v:=w) (G:=[]) (R:=[]) Af hll (by simp) ⟨rfl,w,rfl,Rep.mono (fun a us s r=>⟨r,s.1,s.2.1,fun j z=>s.2.2 j (Vu j a z)⟩) (fun a us r=>r) hr⟩
  refine ht B H0 H3 _ _ _ [] _ At ?_
  cases e:c (ρ'.set l x) with
  |bad=>rw[e] at dn;exact dn.elim
  |exc q=>rw[e] at dn;exact dn
  |ok b =>
   rw[e] at dn
   simp only[Rr.thenS_ok] at dn
   intro H4 F4 s4 _ A4
   cases b with
   |true =>
    simp only[if_true] at dn ⊢
    exact dn (.bl false) H4 A4.same ⟨rfl,rfl⟩
   |false =>
    simp only[Bool.false_eq_true,if_false] at dn ⊢
    refine⟨ρ'.set l x,sm.trans s4,(A'.setU (o:=some w) (y:=x) hl).grow s4, ?_, ?_,DnS.shift (Frm.of s4 fun _ _ h=>h) dn⟩
    ·show (ρ'.set l x).getD i .non=_
     rw[ZsO,Ztj hil,<- ZsO];exact ex'
    ·rw[Ztj hil];exact hs'
end
end L2
namespace My
open L2
noncomputable def tab (n:Nat) (f:Nat->Int):List Int:=(List.range n).map f
theorem ZU (n:Nat) (f:Nat->Int):(tab n f).length=n:=by simp[tab]
theorem V9 {n:Nat}{f:Nat->Int}{x:Nat} (h:x<n):(tab n f).getD x 0=f x:=by
 rw[ZsO,tab,Ztf,Zud h];rfl
theorem Q1 {n:Nat}{f:Nat->Int}{l:List Int} (hl:l.length=n) (h:∀x,x<n->l.getD x 0=f x):l=tab n f:=by
 apply ZuA
 ·rw[hl,ZU]
 ·intro i h1 h2
  have:=h i (by omega)
  rw[ZsO,ZsP h1] at this
  simp only[tab,List.getElem_map,List.getElem_range]
  exact this
theorem ZdB (l:List Int):l=tab l.length fun x=>l.getD x 0:=Q1 rfl fun _ _=>rfl
theorem getD_set {l:List Int}{j x:Nat}{v:Int} (h:j<l.length):(l.set j v).getD x 0=if x=j then v else l.getD x 0:=by
 rw[ZsO,ZsO]
 by_cases e:x=j
 ·subst e;rw[Zto h,if_pos rfl];rfl
 ·rw[Ztj (Ne.symm e),if_neg e]
theorem Zcc {n:Nat}{f:Nat->Int}{j:Nat}{v:Int} (h:j<n):(tab n f).set j v=tab n fun x=>if x=j then v else f x:=by
 refine Q1 (by rw[ZtH,ZU]) fun x hx=>?_
 rw[getD_set (by rw[ZU];exact h)]
 by_cases e:x=j
 ·rw[if_pos e,if_pos e]
 ·rw[if_neg e,if_neg e,V9 hx]
theorem VA {n:Nat}{f g:Nat->Int} (h:∀x,x<n->f x=g x):tab n f=tab n g:=Q1 (ZU _ _) fun x hx=>by rw[V9 hx,h x hx]
theorem Zjb {n:Nat}{f:Nat->Int}{v:Int}:v∈tab n f ↔ ∃x,x<n/\f x=v:=by simp[tab]
theorem J8 {l:List Int}{x:Nat} (h:x<l.length):l.getD x 0∈l:=by
 rw[ZsO,ZsP h];exact Zup h
theorem Zb4 {l:List Int}{v:Int} (h:v∈l):∃x,x<l.length/\l.getD x 0=v:=by
 obtain⟨x,hx,e⟩:=ZuK h
 exact⟨x,hx,by rw[ZsO,ZsP hx,<- e];rfl⟩
theorem Qk:∀{l:List Int}{j:Nat}{v:Int},j<l.length->(l.set j v).sum=l.sum-l.getD j 0+v
 |a::l,0,v,_=>by simp;omega
 |a::l,j+1,v,h=>by
  have:=Qk (l:=l) (j:=j) (v:=v) (by simpa using h)
  simp only[ZuR,ZtR,ZuH,this];omega
theorem Q5:∀(ns:List Int) (c:Int),(ns.map fun v=>v+c).sum=ns.sum+ns.length*c
 |[],c=>by simp
 |a::l,c=>by
  simp only[Ztg,ZtR,Ztl]
  rw[Q5 l c,Int.natCast_add,Int.add_mul];omega
theorem Jw {n a b:Int} (ha:0<=a) (ha':a<n) (hb:0<=b) (hb':b<n):(a-b)%n=if b<=a then a-b else a-b+n:=by
 by_cases h:b<=a
 ·rw[if_pos h,Zt9 (by omega) (by omega)]
 ·rw[if_neg h,<- Int.add_emod_right,Zt9 (by omega) (by omega)]
theorem Ug {n a b:Int} (ha:0<=a) (ha':a<n) (hb:0<=b) (hb':b<n):(a+b)%n=if a+b<n then a+b else a+b-n:=by
 by_cases h:a+b<n
 ·rw[if_pos h,Zt9 (by omega) (by omega)]
 ·rw[if_neg h,<- Int.sub_emod_right,Zt9 (by omega) (by omega)]
structure ZcV (ns:List Int):Prop where
 lo:2<=ns.length
 hi:ns.length<=24
 nn:∀x∈ns,0<=x
 sm:ns.sum<=10^60
theorem ZcV.nn' {ns:List Int} (h:ZcV ns) (x:Nat):0<=ns.getD x 0:=by
 by_cases hx:x<ns.length
 ·exact h.nn _ (J8 hx)
 ·rw[ZsO,Zt2 (by omega)];exact ZuF _
theorem sum_nn:∀{l:List Int},(∀x∈l,0<=x)->0<=l.sum
 |[],_=>by simp
 |a::l,h=>by
  have:=sum_nn (l:=l) fun x hx=>h x (by simp[hx])
  have:=h a (by simp)
  simp only[ZtR];omega
noncomputable def ZeQ (ns:List Int) (p:Int) (x:Nat):Int:=(if (x:Int)=p then 0 else ns.getD x 0)+ns.getD p.toNat 0/ns.length
noncomputable def ZhZ (n:Int) (p:Int) (i:Int) (x:Nat):Int:=if 1<=((x:Int)-p)%n/\((x:Int)-p)%n<=i then 1 else 0
noncomputable def UK (ns:List Int) (p:Int) (i:Int) (x:Nat):Int:=ZeQ ns p x+ZhZ ns.length p i x
theorem Zcf (n p i:Int) (x:Nat):0<=ZhZ n p i x:=by unfold ZhZ;split<;>omega
theorem JU {n p i:Int}{x:Nat} (h:1<=((x:Int)-p)%n/\((x:Int)-p)%n<=i):ZhZ n p i x=1:=if_pos h
theorem Vp {n p i:Int}{x:Nat} (h:¬(1<=((x:Int)-p)%n/\((x:Int)-p)%n<=i)):ZhZ n p i x=0:=if_neg h
theorem Zbp {ns:List Int}{p:Int}{x:Nat} (h:(x:Int)=p):ZeQ ns p x=ns.getD p.toNat 0/ns.length:=by unfold ZeQ;rw[if_pos h];omega
theorem Q6 {ns:List Int}{p:Int}{x:Nat} (h:(x:Int)≠p):ZeQ ns p x=ns.getD x 0+ns.getD p.toNat 0/ns.length:=by unfold ZeQ;rw[if_neg h]
noncomputable def Jp (ns:List Int) (p:Int):List Int:=tab ns.length (UK ns p (ns.getD p.toNat 0%ns.length))
noncomputable def Uf (ns:List Int) (p:Int):Int:=(p+ns.getD p.toNat 0%ns.length)%ns.length
theorem ZR (ns:List Int) (p:Int):(Jp ns p).length=ns.length:=ZU _ _
section
variable {ns:List Int}{p:Int}
theorem Za9 (h0:0<=p) (h1:p<ns.length):(ns.map fun v=>v+ns.getD p.toNat 0/ns.length).set p.toNat (ns.getD p.toNat 0/ns.length)=tab ns.length (UK ns p 0):=by
 refine Q1 (by simp) fun x hx=>?_
 rw[getD_set (by simp;omega)]
 unfold UK
 rw[Vp (by omega)]
 by_cases e:x=p.toNat
 ·rw[if_pos e,Zbp (by omega)];omega
 ·rw[if_neg e,Q6 (by omega)]
  simp[ZsO,ZsP hx]
theorem Zdh (h0:0<=p) (h1:p<ns.length) {i:Nat} (hi:(i:Int)+1<ns.length) :
  (tab ns.length (UK ns p i)).set ((p+(i+1))%ns.length).toNat (UK ns p i ((p+(i+1))%ns.length).toNat+1)=tab ns.length (UK ns p ((i+1:Nat):Int)):=by
 have m1:=Ug h0 h1 (show (0:Int)<=(i:Int)+1 by omega) hi
 have hlt:((p+((i:Int)+1))%ns.length).toNat<ns.length:=by
  rw[m1];split<;>omega
 rw[Zcc hlt]
 refine VA fun x hx=>?_
 have m2:=Jw (n:=ns.length) (show (0:Int)<=(x:Int) by omega) (by omega) h0 h1
 by_cases e:x=((p+((i:Int)+1))%ns.length).toNat
 ·rw[if_pos e,<- e]
  unfold UK
  have hd:((x:Int)-p)%ns.length=i+1:=by
   rw[m2]
   rw[m1] at e
   split at e<;>split<;>omega
  rw[Vp (by omega),JU (by omega)];omega
 ·rw[if_neg e]
  unfold UK
  have hd:((x:Int)-p)%ns.length≠i+1:=by
   intro z
   apply e
   rw[m2] at z
   rw[m1]
   split at z<;>split<;>omega
  by_cases q:1<=((x:Int)-p)%ns.length/\((x:Int)-p)%ns.length<=i
  ·rw[JU q,JU (by omega)]
  ·rw[Vp q,Vp (by omega)]
theorem Zbo (h0:0<=p) (h1:p<ns.length):∀i:Nat,(i:Int)<ns.length->(tab ns.length (UK ns p i)).sum=ns.sum+ns.length*(ns.getD p.toNat 0/ns.length)-ns.getD p.toNat 0+i
 |0,_=>by
  have:=Za9 h0 h1
  rw[Int.natCast_zero,<- this,Qk (by simp;omega)]
  have e:=Q5 ns (ns.getD p.toNat 0/ns.length)
  rw[e]
  have e2:(ns.map fun v=>v+ns.getD p.toNat 0/ns.length).getD p.toNat 0=ns.getD p.toNat 0+ns.getD p.toNat 0/ns.length:=by
   have hx:p.toNat<ns.length:=by omega
   rw[ZsO,Ztf,ZsP hx]
   simp[hx]
  rw[e2];omega
 |i+1,hi=>by
  have ih:=Zbo h0 h1 i (by omega)
  have m1:=Ug h0 h1 (show (0:Int)<=(i:Int)+1 by omega) (by omega)
  have hlt:((p+((i:Int)+1))%ns.length).toNat<ns.length:=by rw[m1];split<;>omega
  rw[<- Zdh h0 h1 (by omega),Qk (by rw[ZU];exact hlt),ih,V9 hlt];omega
theorem ZaA (h0:0<=p) (h1:p<ns.length) (hs:0<=ns.getD p.toNat 0):(Jp ns p).sum=ns.sum:=by
 have b1:=Zts (ns.getD p.toNat 0) (show (ns.length:Int)≠0 by omega)
 have b2:=Ztn (ns.getD p.toNat 0) (show (0:Int)<ns.length by omega)
 have:=Zbo h0 h1 (ns.getD p.toNat 0%ns.length).toNat (by omega)
 rw[Zt0 b1] at this
 have e:=Zu6 (ns.getD p.toNat 0) ns.length
 unfold Jp
 omega
theorem Zcg (hn:∀x∈ns,0<=x) (i:Int) (x:Nat) (hx:x<ns.length):0<=UK ns p i x:=by
 have h1:=hn _ (J8 hx)
 have h2:0<=ns.getD p.toNat 0:=by
  by_cases hp:p.toNat<ns.length
  ·exact hn _ (J8 hp)
  ·rw[ZsO,Zt2 (by omega)];exact ZuF _
 have h3:=ZuL h2 (show (0:Int)<=ns.length by omega)
 have h4:=Zcf ns.length p i x
 unfold UK ZeQ
 split<;>omega
end
noncomputable def run (f:Nat->Int):Nat->Nat->Nat
 |0,i=>i
 |k+1,i=>if 0<f i then run f k (i+1) else i
theorem ZaD (f:Nat->Int):∀(k i:Nat),i<=run f k i/\run f k i<=i+k/\(∀j,i<=j->j<run f k i->0<f j)/\(run f k i<i+k->¬0<f (run f k i))
 |0,i=>⟨ZsU _,ZsU _,fun j h1 h2=>by simp only[run] at h2;omega,fun h=>by simp only[run] at h;omega⟩
 |k+1,i=>by
  unfold run
  by_cases h:0<f i
  ·rw[if_pos h]
   obtain⟨a,b,c,d⟩:=ZaD f k (i+1)
   refine⟨by omega,by omega,fun j h1 h2=>?_,fun h=>d (by omega)⟩
   by_cases e:j=i
   ·subst e;assumption
   ·exact c j (by omega) h2
  ·rw[if_neg h]
   exact⟨ZsU _,by omega,fun j h1 h2=>by omega,fun _=>h⟩
theorem Zkw {f:Nat->Int}{k j:Nat} (hj:j<k) (h1:∀i,i<j->0<f i) (h2:¬0<f j):run f k 0=j:=by
 obtain⟨a,b,c,d⟩:=ZaD f k 0
 rcases Nat.lt_trichotomy (run f k 0) j with z|z|z
 ·exact absurd (h1 _ z) (d (by omega))
 ·exact z
 ·exact absurd (c j (by omega) z) h2
noncomputable def tbG (ns:List Int) (q:Int) (i:Nat):Int:=ns.getD ((q-i)%ns.length).toNat 0-Zct ns
noncomputable def tbJ (ns:List Int) (q:Int):Nat:=run (tbG ns q) ns.length 0
noncomputable def tbF (ns:List Int) (q:Int) (i:Nat) (x:Nat):Int:=ns.getD x 0-Zct ns-(if (q-x)%(ns.length:Int)<i then 1 else 0)
noncomputable def tbP (ns:List Int) (q:Int):Int:=(q-tbJ ns q)%ns.length
noncomputable def tbT (ns:List Int) (q:Int):Int:=Zct ns*ns.length+tbJ ns q
noncomputable def tbB (ns:List Int) (q:Int):List Int:=(tab ns.length (tbF ns q (tbJ ns q))).set (tbP ns q).toNat (tbT ns q)
theorem Zec (ns:List Int) (q:Int):(tbB ns q).length=ns.length:=by simp[tbB,ZU]
section
variable {ns:List Int}{q:Int}
theorem ZgG (h0:0<=q) (h1:q<ns.length):tbJ ns q<ns.length/\(∀i,i<tbJ ns q->0<tbG ns q i)/\tbG ns q (tbJ ns q)=0:=by
 have hne:ns≠[]:=by intro e;rw[e] at h1;simp at h1;omega
 obtain⟨x,hx,ex⟩:=Zb4 (U0 hne)
 have m1:=Jw (n:=ns.length) h0 h1 (show (0:Int)<=x by omega) (by omega)
 have b1:0<=(q-x)%(ns.length:Int)/\(q-x)%(ns.length:Int)<ns.length:=by rw[m1];split<;>omega
 have gx:tbG ns q ((q-x)%(ns.length:Int)).toNat=0:=by
  unfold tbG
  have:((q-(((q-x)%(ns.length:Int)).toNat:Nat))%(ns.length:Int)).toNat=x:=by
   rw[Zt0 b1.1,Jw h0 h1 b1.1 b1.2,m1]
   split<;>split<;>omega
  rw[this,ex];omega
 obtain⟨a,b,c,d⟩:=ZaD (tbG ns q) ns.length 0
 have hlt:tbJ ns q<ns.length:=by
  unfold tbJ
  by_cases h:run (tbG ns q) ns.length 0<ns.length
  ·exact h
  ·have:=c ((q-x)%(ns.length:Int)).toNat (by omega) (by omega)
   rw[gx] at this;omega
 refine⟨hlt,fun i hi=>c i (by omega) hi, ?_⟩
 have h3:=d (by unfold tbJ at hlt;omega)
 have h4:0<=tbG ns q (tbJ ns q):=by
  unfold tbG
  have:=Zcs (ns:=ns) (J8 (x:=((q-tbJ ns q)%(ns.length:Int)).toNat) (by
   have:=Zts (q-tbJ ns q) (show (ns.length:Int)≠0 by omega)
   have:=Ztn (q-tbJ ns q) (show (0:Int)<ns.length by omega)
   omega))
  omega
 have h5:¬0<tbG ns q (tbJ ns q):=h3
 omega
end
theorem ZhN {ns:List Int}{p:Int} (h0:0<=p) (h1:p<ns.length) (hn:∀x∈ns,0<=x):tbB (Jp ns p) (Uf ns p)=ns/\tbP (Jp ns p) (Uf ns p)=p:=by
 have len:=ZR ns p
 have hp:p.toNat<ns.length:=by omega
 have hs:=hn _ (J8 hp)
 have o0:=Zts (ns.getD p.toNat 0) (show (ns.length:Int)≠0 by omega)
 have o1:=Ztn (ns.getD p.toNat 0) (show (0:Int)<ns.length by omega)
 have es:=Zu6 (ns.getD p.toNat 0) ns.length
 have get:∀x,x<ns.length->(Jp ns p).getD x 0=UK ns p (ns.getD p.toNat 0%ns.length) x:=fun x hx=>V9 hx
 have hmin:Zct (Jp ns p)=ns.getD p.toNat 0/ns.length:=by
  refine(Zf6 ?_ ?_).symm
  ·have:(Jp ns p).getD p.toNat 0=ns.getD p.toNat 0/ns.length:=by
    rw[get _ hp];unfold UK
    rw[Zbp (by omega),Vp (by rw[Zt0 h0,ZuY,ZuS];omega)];omega
   rw[<- this];exact J8 (by omega)
  ·intro a ha
   obtain⟨x,hx,rfl⟩:=Zb4 ha
   rw[get x (by omega)]
   have:=hn _ (J8 (show x<ns.length by omega))
   have:=Zcf ns.length p (ns.getD p.toNat 0%ns.length) x
   unfold UK ZeQ
   split<;>omega
 have mL:=Ug h0 h1 o0 o1
 have hL:0<=Uf ns p/\Uf ns p<ns.length:=by unfold Uf;rw[mL];split<;>omega
 generalize ho:ns.getD p.toNat 0%ns.length=o at *
 have eL:Uf ns p=if p+o<ns.length then p+o else p+o-ns.length:=by unfold Uf;rw[ho,mL]
 have place:∀i:Nat,(i:Int)<=o->((Uf ns p-i)%ns.length).toNat<ns.length/\(((((Uf ns p-i)%ns.length).toNat:Nat):Int)-p)%ns.length=o-i:=fun i hi=>by
  have m:=Jw (n:=ns.length) hL.1 hL.2 (show (0:Int)<=i by omega) (by omega)
  have b:0<=(Uf ns p-i)%(ns.length:Int)/\(Uf ns p-i)%(ns.length:Int)<ns.length:=by rw[m];split<;>omega
  refine⟨by omega, ?_⟩
  rw[Zt0 b.1,Jw b.1 b.2 h0 h1,m,eL]
  split<;>split<;>split<;>omega
 have hJ:tbJ (Jp ns p) (Uf ns p)=o.toNat:=by
  unfold tbJ
  rw[len]
  refine Zkw (by omega) (fun i hi=>?_) ?_
  ·obtain⟨a,b⟩:=place i (by omega)
   unfold tbG
   rw[len,hmin,get _ a]
   have:=hn _ (J8 a)
   unfold UK
   rw[Q6 (fun z=>by rw[z,ZuY,ZuS] at b;omega),JU (by omega)];omega
  ·obtain⟨a,b⟩:=place o.toNat (by omega)
   unfold tbG
   rw[len,hmin,get _ a]
   have m:=Jw (n:=ns.length) (show (0:Int)<=((((Uf ns p-o.toNat)%ns.length).toNat:Nat):Int) by omega) (by omega) h0 h1
   unfold UK
   rw[Zbp (by rw[b] at m;split at m<;>omega),Vp (by omega)];omega
 have hP:tbP (Jp ns p) (Uf ns p)=p:=by
  unfold tbP
  rw[hJ,len]
  obtain⟨a,b⟩:=place o.toNat (by omega)
  have b0:=Zts (Uf ns p-o.toNat) (show (ns.length:Int)≠0 by omega)
  have m:=Jw (n:=ns.length) (show (0:Int)<=((((Uf ns p-o.toNat)%ns.length).toNat:Nat):Int) by omega) (by omega) h0 h1
  rw[b] at m
  split at m<;>omega
 refine⟨?_,hP⟩
 unfold tbB
 rw[hP,hJ,len,Zcc hp]
 refine((ZdB ns).trans (VA fun x hx=>?_)).symm
 by_cases e:x=p.toNat
 ·rw[if_pos e]
  unfold tbT
  rw[hmin,hJ,len,e]
  rw[Int.mul_comm];omega
 ·rw[if_neg e]
  unfold tbF
  rw[hmin,len,get x hx]
  unfold UK
  rw[Q6 (by omega)]
  have m1:=Jw (n:=ns.length) (show (0:Int)<=x by omega) (by omega) h0 h1
  have m2:=Jw (n:=ns.length) hL.1 hL.2 (show (0:Int)<=x by omega) (by omega)
  have key:(1<=((x:Int)-p)%ns.length/\((x:Int)-p)%ns.length<=o) ↔ (Uf ns p-x)%(ns.length:Int)<(o.toNat:Int):=by
   rw[m1,m2,eL]
   split<;>split<;>split<;>omega
  by_cases c:1<=((x:Int)-p)%ns.length/\((x:Int)-p)%ns.length<=o
  ·rw[JU c,if_pos (key.mp c)];omega
  ·rw[Vp c,if_neg (fun z=>c (key.mpr z))];omega
theorem ZgI {ns:List Int}{q:Int} (h0:0<=q) (h1:q<ns.length) (hn:∀x∈ns,0<=x):Jp (tbB ns q) (tbP ns q)=ns/\Uf (tbB ns q) (tbP ns q)=q:=by
 have len:=Zec ns q
 obtain⟨j1,j2,j3⟩:=ZgG h0 h1
 have hne:ns≠[]:=by intro e;rw[e] at h1;simp at h1;omega
 have hm:=hn _ (U0 hne)
 have m0:=Jw (n:=ns.length) h0 h1 (show (0:Int)<=(tbJ ns q:Nat) by omega) (by omega)
 have eP:tbP ns q=if ((tbJ ns q:Nat):Int)<=q then q-tbJ ns q else q-tbJ ns q+ns.length:=m0
 have hP:0<=tbP ns q/\tbP ns q<ns.length:=by rw[eP];split<;>omega
 have hp:(tbP ns q).toNat<ns.length:=by omega
 have get:∀x,x<ns.length->(tbB ns q).getD x 0=if x=(tbP ns q).toNat then tbT ns q else tbF ns q (tbJ ns q) x:=fun x hx=>by
  unfold tbB
  rw[getD_set (by rw[ZU];exact hp),V9 hx]
 have gp:(tbB ns q).getD (tbP ns q).toNat 0=tbT ns q:=by rw[get _ hp,if_pos rfl]
 have et:tbT ns q/ns.length=Zct ns/\tbT ns q%ns.length=tbJ ns q:=by
  unfold tbT
  constructor
  ·rw[Int.add_comm,Int.add_mul_ediv_right _ _ (by omega),Int.ediv_eq_zero_of_lt (by omega) (by omega)];omega
  ·rw[Int.add_comm,Int.add_mul_emod_self_right,Zt9 (by omega) (by omega)]
 constructor
 ·unfold Jp
  rw[len]
  refine((ZdB ns).trans (VA fun x hx=>?_)).symm
  unfold UK
  rw[gp,len,et.2]
  have m1:=Jw (n:=ns.length) (show (0:Int)<=x by omega) (by omega) hP.1 hP.2
  have m2:=Jw (n:=ns.length) h0 h1 (show (0:Int)<=x by omega) (by omega)
  by_cases e:(x:Int)=tbP ns q
  ·rw[Zbp e,gp,len,et.1,Vp (by rw[e,ZuY,ZuS];omega)]
   have:x=((q-(tbJ ns q:Nat))%(ns.length:Int)).toNat:=by
    show x=(tbP ns q).toNat
    omega
   unfold tbG at j3
   rw[<- this] at j3;omega
  ·rw[Q6 e,gp,len,et.1,get x hx,if_neg (by omega)]
   unfold tbF
   have key:(1<=((x:Int)-tbP ns q)%ns.length/\((x:Int)-tbP ns q)%ns.length<=(tbJ ns q:Int)) ↔ (q-x)%(ns.length:Int)<(tbJ ns q:Int):=by
    rw[m1,m2]
    rw[eP] at e ⊢
    split<;>split<;>split at *<;>omega
   by_cases c:(q-x)%(ns.length:Int)<(tbJ ns q:Int)
   ·rw[if_pos c,JU (key.mpr c)];omega
   ·rw[if_neg c,Vp (fun z=>c (key.mp z))];omega
 ·unfold Uf
  rw[gp,len,et.2,Ug hP.1 hP.2 (by omega) (by omega),eP]
  split<;>split<;>omega
structure UT (ns:List Int) (p:Int):Prop where
 bd:ZcV ns
 lo:0<=p
 hi:p<ns.length
 pos:0<ns.getD p.toNat 0
noncomputable def Va (a:List Int×Int):List Int×Int:=(Jp a.1 a.2,Uf a.1 a.2)
noncomputable def tbS (a:List Int×Int):List Int×Int:=(tbB a.1 a.2,tbP a.1 a.2)
theorem ZeP {ns:List Int}{p:Int} (h:UT ns p):ZcV (Jp ns p):=by
 have:=h.lo;have:=h.hi
 refine⟨by rw[ZR];exact h.bd.lo,by rw[ZR];exact h.bd.hi,fun x hx=>?_, ?_⟩
 ·obtain⟨y,hy,rfl⟩:=Zjb.mp hx
  exact Zcg h.bd.nn _ y hy
 ·rw[ZaA h.lo h.hi (h.bd.nn' _)];exact h.bd.sm
theorem Zed {ns:List Int}{p:Int} (h0:0<=p) (h1:p<ns.length):0<=Uf ns p/\Uf ns p<ns.length:=
 ⟨Zts _ (by omega),Ztn _ (by omega)⟩
theorem ZeO {ns:List Int}{p:Int} (h:UT ns p):UT (Jp ns p) (Uf ns p):=by
 have h0:=h.lo
 have h1:=h.hi
 have hs:=h.pos
 obtain⟨l0,l1⟩:=Zed h0 h1
 refine⟨ZeP h,l0,by rw[ZR];exact l1, ?_⟩
 have o0:=Zts (ns.getD p.toNat 0) (show (ns.length:Int)≠0 by omega)
 have o1:=Ztn (ns.getD p.toNat 0) (show (0:Int)<ns.length by omega)
 have es:=Zu6 (ns.getD p.toNat 0) ns.length
 have dn:=ZuL (show 0<=ns.getD p.toNat 0 by omega) (show (0:Int)<=ns.length by omega)
 have hx:(Uf ns p).toNat<ns.length:=by omega
 have hv:=h.bd.nn' (Uf ns p).toNat
 unfold Jp
 rw[V9 hx]
 unfold UK
 have mL:Uf ns p=if p+ns.getD p.toNat 0%ns.length<ns.length then p+ns.getD p.toNat 0%ns.length else p+ns.getD p.toNat 0%ns.length-ns.length:=Ug h0 h1 o0 o1
 by_cases c:ns.getD p.toNat 0%ns.length=0
 ·rw[Zbp (by rw[c] at mL;split at mL<;>omega)]
  have:=Zcf ns.length p (ns.getD p.toNat 0%ns.length) (Uf ns p).toNat
  have:ns.getD p.toNat 0/ns.length≠0:=fun z=>by rw[z] at es;omega
  omega
 ·have m2:=Jw (n:=ns.length) l0 l1 h0 h1
  rw[JU (by rw[Zt0 l0,m2];split at mL<;>split<;>omega),Q6 (by split at mL<;>omega)]
  omega
noncomputable def its {α:Type} (f:α->α):Nat->α->α
 |0,a=>a
 |n+1,a=>f (its f n a)
section
end
end My
namespace My
open PySem L2
noncomputable abbrev Zcn (a:List Int×Int):PV:=.tup [.lst (a.1.map PV.int),.int a.2]
noncomputable def Vm (ns:List Int):Bool:=decide (2<=ns.length/\ns.length<=24/\(∀x∈ns,0<=x)/\ns.sum<=10^60)
theorem Vl {ns:List Int}:Vm ns=true ↔ ZcV ns:=by
 unfold Vm
 rw[decide_eq_true_iff]
 exact⟨fun⟨a,b,c,d⟩=>⟨a,b,c,d⟩,fun h=>⟨h.lo,h.hi,h.nn,h.sm⟩⟩
noncomputable def Zl2 (way:Int):List Int×Int->List Int×Int:=if way=0 then Va else tbS
theorem Zga {way:Int} (hw:way=0\/way=1) {a:List Int×Int} (h:UT a.1 a.2):Zl2 (1-way) (Zl2 way a)=a:=by
 rcases hw with rfl|rfl
 ·have:=ZhN h.lo h.hi h.bd.nn
  show (tbB (Jp a.1 a.2) (Uf a.1 a.2),tbP (Jp a.1 a.2) (Uf a.1 a.2))=a
  rw[this.1,this.2]
 ·have:=ZgI h.lo h.hi h.bd.nn
  show (Jp (tbB a.1 a.2) (tbP a.1 a.2),Uf (tbB a.1 a.2) (tbP a.1 a.2))=a
  rw[this.1,this.2]
theorem ZhV {a:List Int×Int} (h:UT a.1 a.2):tbS (Va a)=a:=Zga (way:=0) (.inl rfl) h
end My
namespace L2
noncomputable def Zll (p s:Int):Int:=p*s%(p+1)
noncomputable def Znb (p s:Int):Int:=p*s/(p+1)
noncomputable def ZiD (s:Int):Nat->Int
 |0=>s
 |k+1=>Znb (k+1) (ZiD s k)
noncomputable def Zlr (s:Int) (n:Nat):List Int:=(List.range n).map fun(k:Nat)=>Zll (k+1) (ZiD s k)
noncomputable def Zka (s:Int):Nat->Nat->Nat
 |0,k=>k
 |n+1,k=>if 0<ZiD s k then Zka s n (k+1) else k
noncomputable def Zng (s:Int):Nat:=Zka s s.toNat 0
noncomputable def Zmb (s:Int):List Int:=Zlr s (Zng s)
theorem Zkq:∀{ns:List Int},(∀x∈ns,0<=x)->0<=ns.sum
 |[],_=>by simp
 |n::ns,h=>by
  have h1:=h n (by simp)
  have h2:=Zkq (ns:=ns) fun x hx=>h x (by simp[hx])
  simp only[ZtR];omega
theorem ZkW:∀{ns:List Int},(∀x∈ns,0<=x)->∀x∈ns,x<=ns.sum
 |[],_,x,hx=>by simp at hx
 |n::ns,h,x,hx=>by
  have h1:=h n (by simp)
  have h2:=Zkq (ns:=ns) fun x hx=>h x (by simp[hx])
  simp only[ZtR]
  rcases ZsZ.mp hx with rfl|hx
  ·omega
  ·have:=ZkW (ns:=ns) (fun x hx=>h x (by simp[hx])) x hx;omega
def Zg3 (ns:List Int):Prop:=(∀x∈ns,0<=x)/\ns.length<=200/\ns.sum<=10000/\(ns=[]\/ns.getD (ns.length-1) 0≠0)
noncomputable instance (ns:List Int):Decidable (Zg3 ns):=by unfold Zg3;infer_instance
def Ziy (ns:List Int):Prop:=Zg3 ns/\ns=Zmb ns.sum
noncomputable instance (ns:List Int):Decidable (Ziy ns):=by unfold Ziy;infer_instance
noncomputable def s2 (ns:List Int) (r:Nat):Nat->Int
 |0=>0
 |i+1=>s2 ns r i+if i%2=r then ns.getD i 0 else 0
theorem ZbG {ns:List Int}{i:Nat} (h:i<ns.length):ns.getD i 0∈ns:=by
 rw[ZsO,ZsP h];exact Zup _
noncomputable def hs:Nat->Nat->Int->List Int
 |_,0,_=>[]
 |k,m+1,l=>Zll (k+1) l::hs (k+1) m (Znb (k+1) l)
noncomputable def s3 (ns:List Int) (r:Nat):Nat->Int
 |0=>0
 |i+1=>s3 ns r i+if i%3=r then ns.getD i 0 else 0
def Zix (ns:List Int):Prop:=(∀x∈ns,0<=x)/\ns.length<=100/\ns.sum<=100/\(ns=[]\/(ns.getD 0 0≠0/\ns.getD (ns.length-1) 0≠0))
noncomputable instance (ns:List Int):Decidable (Zix ns):=by unfold Zix;infer_instance
theorem Qw {ns:List Int}{i:Nat} (h:ns.length<=i):ns.getD i 0=0:=by
 rw[ZsO,Zt2 h];rfl
theorem US {ns:List Int} (h:∀x∈ns,0<=x) (i:Nat):0<=ns.getD i 0:=by
 by_cases z:i<ns.length
 ·exact h _ (ZbG z)
 ·rw[Qw (by omega)];omega
theorem sum_nn:∀{ns:List Int},(∀x∈ns,0<=x)->0<=ns.sum
 |[],_=>by simp
 |x::xs,h=>by
  have:=h x (by simp)
  have:=sum_nn (ns:=xs) (fun y hy=>h y (by simp[hy]))
  simp;omega
theorem ZeM:∀{l:List Int}{i:Nat}{v:Int},i<l.length->(l.set i v).sum=l.sum-l.getD i 0+v
 |[],_,_,h=>by simp at h
 |x::xs,0,v,_=>by simp;omega
 |x::xs,i+1,v,h=>by
  have:=ZeM (l:=xs) (i:=i) (v:=v) (by simpa using h)
  simp only[ZuR,ZtR,ZuH]
  omega
theorem getD_set {l:List Int}{i j:Nat}{v:Int} (h:i<l.length):(l.set i v).getD j 0=if i=j then v else l.getD j 0:=by
 simp only[ZsO,List.getElem?_set,if_pos h]
 split<;>rfl
theorem mem_getD {l:List Int}{x:Int} (h:x∈l):∃i,i<l.length/\x=l.getD i 0:=by
 obtain⟨i,hi,rfl⟩:=ZuK h
 exact⟨i,hi,by rw[ZsO,ZsP hi];rfl⟩
noncomputable def JY (ns:List Int) (k:Nat):Int:=ns.getD k 0%10^61
noncomputable def Uu (ns:List Int) (later m:Nat):Nat->List Int
 |0=>List.replicate m 0
 |i+1=>(Uu ns later m i).set (i%m) (((Uu ns later m i).getD (i%m) 0*3+ns.getD (later+i) 0%10^61)%10^62)
@[simp] theorem VB (ns:List Int) (later m:Nat):∀i,(Uu ns later m i).length=m
 |0=>by simp[Uu]
 |i+1=>by rw[Uu,ZtH,VB]
theorem Zdg (ns:List Int) (later m:Nat):∀i,∀x∈Uu ns later m i,0<=x/\x<10^62
 |0=>fun x hx=>by rw[Uu] at hx;rw[List.eq_of_mem_replicate hx];decide
 |i+1=>fun x hx=>by
  rw[Uu] at hx
  rcases List.mem_or_eq_of_mem_set hx with h|h
  ·exact Zdg ns later m i x h
  ·rw[h];omega
theorem Zjs {l:List Int}{P:Int->Prop} (h:∀x∈l,P x) (h0:P 0) (i:Nat):P (l.getD i 0):=by
 by_cases q:i<l.length
 ·rw[ZsO,ZsP q];exact h _ (Zup q)
 ·rw[Qw (by omega)];exact h0
noncomputable def Zcd (ns:List Int) (later m:Nat):List Int:=Uu ns later m (ns.length-later)
@[simp] theorem Zbm (ns:List Int) (later m:Nat):(Zcd ns later m).length=m:=VB ..
noncomputable def stir (c j:Int):Int:=((c%2147483647+1009*j+7)*48271%2147483647)*((c%2147483647+1009*j+7)*48271%2147483647)%998244353/8
noncomputable def Zkf (t b:Int):Nat->Int
 |0=>t
 |j+1=>Zkf t b j/b
noncomputable def Ziq (t b:Int) (m:Nat):List Int:=(List.range m).map fun(j:Nat)=>Zkf t b j%b
theorem ZfW (t b:Int) (m:Nat):Ziq t b (m+1)=Ziq t b m++[Zkf t b m%b]:=by simp[Ziq,Zux]
@[simp] theorem ZcA (t b:Int) (m:Nat):(Ziq t b m).length=m:=by simp[Ziq]
noncomputable def ZgM (ns:List Int) (skip many base:Int) (mixed:Bool):List Int:=
 if mixed=true then (List.range many.toNat).map fun(j:Nat)=>stir ((Zcd ns skip.toNat (max 1 many.toNat)).getD j 0) j%base
 else Ziq ((ns.drop skip.toNat).map fun(c:Int)=>c%10^61).sum base many.toNat
@[simp] theorem Zch (ns:List Int) (skip many base:Int) (mixed:Bool):(ZgM ns skip many base mixed).length=many.toNat:=by unfold ZgM;split<;>simp
theorem ZiF (ns:List Int) (skip many:Int) {base:Int} (hb:0<base) (mixed:Bool):∀x∈ZgM ns skip many base mixed,0<=x/\x<base:=fun x hx=>by
 unfold ZgM at hx
 split at hx
 ·obtain⟨j,_,rfl⟩:=Ztm.mp hx
  exact⟨Zts _ (by omega),Ztn _ hb⟩
 ·obtain⟨j,_,rfl⟩:=Ztm.mp hx
  exact⟨Zts _ (by omega),Ztn _ hb⟩
end L2
namespace My
open L2
theorem ZjS {a:List Int×Int} (h:UT a.1 a.2):∀n,UT (its Va n a).1 (its Va n a).2
 |0=>h
 |n+1=>ZeO (ZjS h n)
noncomputable def Zmh (ns:List Int) (k:Int):List Int:=tab ns.length fun x=>ns.getD (((x:Int)-k)%ns.length).toNat 0
noncomputable def Zmg (a:List Int×Int) (s:Nat):Int:=((its Va s a).2-a.2)%a.1.length
def isT (a:List Int×Int) (s:Nat):Prop:=(its Va s a).1=Zmh a.1 (Zmg a s)
noncomputable instance (a:List Int×Int) (s:Nat):Decidable (isT a s):=by unfold isT;infer_instance
noncomputable def lsF (bs:List Int) (p:Int) (i:Nat) (x:Nat):Int:=(if (x:Int)=p then 0 else bs.getD x 0)+if ((x:Int)-(p+1))%bs.length<i then bs.getD p.toNat 0/bs.length+(if ((x:Int)-(p+1))%bs.length<bs.getD p.toNat 0%bs.length then 1 else 0) else 0
section
variable {bs:List Int}{p:Int}
theorem Zjg (h0:0<=p) (h1:p<bs.length):bs.set p.toNat 0=tab bs.length (lsF bs p 0):=by
 refine Q1 (by simp) fun x hx=>?_
 rw[L2.getD_set (by omega)]
 unfold lsF
 have:=Zts ((x:Int)-(p+1)) (show (bs.length:Int)≠0 by omega)
 rw[if_neg (show ¬((x:Int)-(p+1))%bs.length<((0:Nat):Int) by omega)]
 by_cases c:p.toNat=x
 ·rw[if_pos c,if_pos (by omega)];omega
 ·rw[if_neg c,if_neg (by omega)];omega
theorem Zjh (h0:0<=p) (h1:p<bs.length) {i:Nat} (hi:i<bs.length) :
  (tab bs.length (lsF bs p i)).set ((p+1+i)%bs.length).toNat (lsF bs p i ((p+1+i)%bs.length).toNat+bs.getD p.toNat 0/bs.length+(if (i:Int)<bs.getD p.toNat 0%bs.length then 1 else 0))=tab bs.length (lsF bs p (i+1)):=by
 have hn:(0:Int)<bs.length:=by omega
 have y0:=Zts (p+1+i) (show (bs.length:Int)≠0 by omega)
 have y1:=Ztn (p+1+i) hn
 rw[Zcc (by omega)]
 refine VA fun x hx=>?_
 have d0:=Zts ((x:Int)-(p+1)) (show (bs.length:Int)≠0 by omega)
 have d1:=Ztn ((x:Int)-(p+1)) hn
 have key:((x:Int)-(p+1))%bs.length=i ↔ x=((p+1+i)%bs.length).toNat:=by
  constructor
  ·intro e
   have:(p+1+i)%bs.length=x:=by
    rw[<- e,Int.add_emod_emod,show p+1+((x:Int)-(p+1))=x by omega,Zt9 (by omega) (by omega)]
   omega
  ·intro e
   have:(x:Int)=(p+1+i)%bs.length:=by omega
   rw[this,Int.emod_sub_emod,show p+1+(i:Int)-(p+1)=i by omega,Zt9 (by omega) (by omega)]
 by_cases c:x=((p+1+i)%bs.length).toNat
 ·rw[if_pos c,<- c]
  have hk:=key.mpr c
  unfold lsF
  rw[hk,if_neg (show ¬(i:Int)<(i:Int) by omega),if_pos (show (i:Int)<((i+1:Nat):Int) by omega)]
  omega
 ·rw[if_neg c]
  have hk:¬((x:Int)-(p+1))%bs.length=i:=fun z=>c (key.mp z)
  unfold lsF
  by_cases q:((x:Int)-(p+1))%bs.length<i
  ·rw[if_pos q,if_pos (show ((x:Int)-(p+1))%bs.length<((i+1:Nat):Int) by omega)]
  ·rw[if_neg q,if_neg (show ¬((x:Int)-(p+1))%bs.length<((i+1:Nat):Int) by omega)]
theorem ZkV (h0:0<=p) (h1:p<bs.length):tab bs.length (lsF bs p bs.length)=Jp bs p:=by
 have hn:(0:Int)<bs.length:=by omega
 refine VA fun x hx=>?_
 have d0:=Zts ((x:Int)-(p+1)) (show (bs.length:Int)≠0 by omega)
 have d1:=Ztn ((x:Int)-(p+1)) hn
 have o1:=Ztn (bs.getD p.toNat 0) hn
 have e:((x:Int)-p)%bs.length=if ((x:Int)-(p+1))%bs.length+1=bs.length then 0 else ((x:Int)-(p+1))%bs.length+1:=by
  have:((x:Int)-p)%bs.length=(((x:Int)-(p+1))%bs.length+1)%bs.length:=by
   rw[Int.emod_add_emod,show (x:Int)-(p+1)+1=x-p by omega]
  rw[this]
  split
  ·rename_i c;rw[c,Int.emod_self]
  ·exact Zt9 (by omega) (by omega)
 have e2:(if 1<=((x:Int)-p)%bs.length/\((x:Int)-p)%bs.length<=bs.getD p.toNat 0%bs.length then (1:Int) else 0)=if ((x:Int)-(p+1))%bs.length<bs.getD p.toNat 0%bs.length then 1 else 0:=by
  generalize ((x:Int)-p)%bs.length=D at e
  subst e
  by_cases q:((x:Int)-(p+1))%bs.length<bs.getD p.toNat 0%bs.length
  ·rw[if_pos q]
   apply if_pos
   split<;>omega
  ·rw[if_neg q]
   apply if_neg
   split<;>omega
 unfold lsF UK ZeQ ZhZ
 rw[if_pos d1,e2]
 omega
theorem ZkU (p s n:Int):(p+s)%n=(p+s%n)%n:=by rw[Int.add_emod_emod]
end
end My
namespace My
open PySem PySem.Spec PyProof.Rows L2
theorem QG {ns:List Int}{k:Int} (h0:0<=k) (h1:k<ns.length):pIx (.tup (ns.map PV.int)) (.int k)=.ok (.int (ns.getD k.toNat 0)):=Qq (ns:=ns) h0 h1
theorem Zek {ns:List Int}:Zg5 [.tup (ns.map PV.int)]=.ok (.int ns.length):=by simp[Zg5]
theorem Zh3 {xs:List PV}:PV.flat (.tup xs)=PV.flats xs:=by simp[PV.flat]
theorem Zav {ns:List Int}:PV.flat (.tup (ns.map PV.int))=true:=by rw[Zh3];exact ZbH
theorem ZbF {ns:List Int}:grd (.tup (ns.map PV.int))=.ok (.tup (ns.map PV.int)):=by unfold grd;rw[Zav];rfl
theorem ZhP {xs:List PV}:Znc (.tup xs)=.ok xs:=rfl
noncomputable def tI (b:List Int):List Key:=b.map Sum.inl
theorem Za6 (b:List Int):Jd b=.tup ((tI b).map Zji):=by unfold Jd tI;rw[Zt6];rfl
theorem QQ {α:Type}{q:α->PV} (h:∀a,PV.flat (q a)=true):∀L:List α,PV.flats (L.map q)=true
 |[]=>by simp[PV.flats]
 |a::L=>by
  rw[Ztg]
  simp only[PV.flats,h a,QQ h L,Bool.and_self]
theorem Zf5 {xs:List PV} (h:PV.flats xs=true) (hl:xs.length<=1000000):newF xs=.ok (.lst xs):=by
 unfold newF
 rw[h,decide_eq_true hl];rfl
theorem Zih {α:Type}{q:α->PV}{L:List α} (h:∀a,PV.flat (q a)=true) (hl:L.length<=1000000):newF (L.map q)=.ok (.lst (L.map q)):=Zf5 (QQ h L) (by simpa using hl)
theorem Vh (t:List Int):PV.flat (Jd t)=true:=Zav
theorem ZeH {a b:List Int} (h:tI a=tI b):a=b:=by
 unfold tI at h
 exact(List.map_inj_right fun x y h=>Sum.inl.inj h).mp h
section
variable {κ:Type} [DecidableEq κ] {α:Type}{k:κ}{ks:List κ}
theorem Zbs (h:k ∉ ks):QZ ks k=ks++[k]:=if_neg h
theorem Zbr {xs:List α}{y:α} (h:k ∉ ks):UN ks xs k y=xs++[y]:=if_neg h
end
section
variable {ks:List (List Key)}{xs:List PV}{p:Option PySem.Addr}{g:List Int}{v:PV}
theorem ZlA:dAt (.box p (.dt ks) xs) (Jd g)=some (atK ks xs (tI g)):=by
 rw[Za6]
 simp only[dAt,VR,Option.map_some]
theorem Zfu (h:atK ks xs (tI g)=some v):Zhe (.box p (.dt ks) xs) (Jd g)=.ok v:=by
 unfold Zhe
 rw[ZlA,h]
theorem Zd0 {f:Bool->Bool}:ZlT f (Jd g) (.box p (.dt ks) xs)=.ok (.bl (f (atK ks xs (tI g)).isSome)):=by
 unfold ZlT
 rw[ZlA]
theorem Zft (hv:v.flat=true) (hl:xs.length<1000000):Zhd (.box p (.dt ks) xs) (Jd g) v=.ok (.box p (.dt (QZ ks (tI g))) (UN ks xs (tI g) v)):=by
 rw[Za6]
 unfold Zhd
 simp only[VR]
 rw[if_pos ⟨hl,.inr hv⟩]
theorem Qx:∀{ks:List (List Key)}{xs:List PV}{k:List Key},k ∉ ks->atK ks xs k=none
 |[],_,_,_=>by unfold atK;rfl
 |k'::ks,[],k,_=>by unfold atK;rfl
 |k'::ks,x::xs,k,h=>by
  unfold atK
  rw[if_neg (fun e=>h (by rw[e];exact ZtG ..)),Qx fun z=>h (Ztx _ z)]
theorem Zbc:∀{ks:List (List Key)}{xs:List PV}{k:List Key},ks.length=xs.length->k∈ks->∃x,atK ks xs k=some x
 |[],_,_,_,h=>by simp at h
 |k'::ks,[],k,h,_=>by simp at h
 |k'::ks,x::xs,k,h,hm=>by
  unfold atK
  by_cases e:k'=k
  ·rw[if_pos e];exact⟨x,rfl⟩
  ·rw[if_neg e]
   exact Zbc (by simpa using h) ((ZsZ.mp hm).resolve_left fun z=>e z.symm)
theorem Zg1:∀{ks ls:List (List Key)}{xs ys:List PV}{k:List Key}{x:PV},ks.length=xs.length->atK ks xs k=some x->atK (ks++ls) (xs++ys) k=some x
 |[],_,_,_,_,_,_,h=>by unfold atK at h;cases h
 |k'::ks,_,[],_,_,_,h,_=>by simp at h
 |k'::ks,ls,x'::xs,ys,k,x,h,e=>by
  rw[Zue,Zue]
  unfold atK at e ⊢
  by_cases c:k'=k
  ·rw[if_pos c] at e ⊢;exact e
  ·rw[if_neg c] at e ⊢;exact Zg1 (by simpa using h) e
end
noncomputable def ZgH (x:Int×List Int):PV:=.tup [.int x.1,Jd x.2]
end My
namespace L2
noncomputable def cbI (s:Int):Nat->Int
 |0=>1
 |k+1=>cbI s k*(s+((k:Int)+1))/((k:Int)+1)
theorem Zgr {s:Int} (h:0<=s):∀k,0<=cbI s k
 |0=>by simp[cbI]
 |k+1=>by
  rw[cbI]
  exact ZuL (Int.mul_nonneg (Zgr h k) (by omega)) (by omega)
theorem Zit {s:Int} (h:0<=s) (h1:s<=10^60):∀k:Nat,k<=1000->cbI s k<=(10^61)^k
 |0,_=>by simp[cbI]
 |k+1,hk=>by
  have ih:=Zit h h1 k (by omega)
  have nn:=Zgr h k
  rw[cbI]
  have e1:cbI s k*(s+((k:Int)+1))<=(10^61)^k*10^61:=Int.mul_le_mul ih (by omega) (by omega) (Int.pow_nonneg (by decide))
  have e2:cbI s k*(s+((k:Int)+1))/((k:Int)+1)<=cbI s k*(s+((k:Int)+1)):=Int.ediv_le_self _ (Int.mul_nonneg nn (by omega))
  rw[Int.pow_succ]
  omega
noncomputable def cbN (p s:Int):Int:=if s<0 then 0 else cbI s (p-1).toNat
theorem Zgq {s:Int} (h:0<=s) (h1:s<=10^60) {k:Nat} (hk:k<=24):(cbI s k).natAbs<2^60000:=by
 have h2:=Zit h h1 k (by omega)
 have h3:=Zgr h k
 have h4:((10:Int)^61)^k<=(10^61)^24:=by
  have:((10:Nat)^61)^k<=(10^61)^24:=ZuB (by decide) hk
  exact_mod_cast this
 have h5:((10:Int)^61)^24=10^1464:=by rw[<- Int.pow_mul]
 have h6:(cbI s k).natAbs<=10^1464:=by
  have:cbI s k<=10^1464:=by rw[<- h5];exact Int.le_trans h2 h4
  have e:((cbI s k).natAbs:Int)=cbI s k:=Int.natAbs_of_nonneg h3
  have:((cbI s k).natAbs:Int)<=((10^1464:Nat):Int):=by rw[e];exact_mod_cast this
  exact_mod_cast this
 have h7:10^1464<2^60000:=by
  calc (10:Nat)^1464<=(2^4)^1464:=Nat.pow_le_pow_left (by decide) _
   _=2^5856:=by rw[<- Nat.pow_mul]
   _<2^60000:=Nat.pow_lt_pow_right (by decide) (by decide)
 omega
noncomputable def bN:Nat->Nat->Nat
 |0=>fun _=>1
 |s+1=>fun k=>Nat.rec 1 (fun k ih=>bN s (k+1)+ih) k
@[simp] theorem Zns (s:Nat):bN s 0=1:=by cases s<;>rfl
@[simp] theorem Znr (k:Nat):bN 0 k=1:=by exact id rfl
theorem ZcO (s k:Nat):bN (s+1) (k+1)=bN s (k+1)+bN (s+1) k:=rfl
theorem ZlG:∀n s k,s+k=n->(k+1)*bN s (k+1)=(s+k+1)*bN s k/\(s+1)*bN (s+1) k=(s+k+1)*bN s k:=by
 intro n
 induction n using Nat.strongRecOn with
 |ind n ih =>
  intro s k h
  constructor
  ·cases s with
   |zero=>simp
   |succ s =>
    have h1:=(ih (s+k) (by omega) s k rfl).1
    have h2:=(ih (s+k) (by omega) s k rfl).2
    rw[ZcO,Nat.mul_add,h1,<- h2,<- ZuM]
    congr 1
  ·cases k with
   |zero=>simp
   |succ k =>
    have h1:=(ih (s+k) (by omega) s k rfl).1
    have h2:=(ih (s+k) (by omega) s k rfl).2
    rw[ZcO,Nat.mul_add,h2,<- h1,<- ZuM]
    congr 1
    omega
theorem Ziu (s:Nat):∀k:Nat,cbI s k=(bN s k:Nat)
 |0=>by simp[cbI]
 |k+1=>by
  have h:=(ZlG (s+k) s k rfl).1
  rw[cbI,Ziu s k]
  have e:((bN s k:Nat):Int)*((s:Int)+((k:Int)+1))=((k:Int)+1)*(bN s (k+1):Nat):=by
   have:(((k+1)*bN s (k+1):Nat):Int)=(((s+k+1)*bN s k:Nat):Int):=by rw[h]
   rw[Int.natCast_mul,Int.natCast_mul] at this
   rw[show ((k:Int)+1)=((k+1:Nat):Int) by omega,this,Int.mul_comm]
   congr 1
  rw[e,Int.mul_ediv_cancel_left _ (by omega)]
theorem Za1 {p s:Int} (hs:0<=s):cbN p s=(bN s.toNat (p-1).toNat:Nat):=by
 unfold cbN
 rw[if_neg (by omega)]
 have:=Ziu s.toNat (p-1).toNat
 rwa [Zt0 hs] at this
theorem ZcI {p s:Int} (hs:s<0):cbN p s=0:=if_pos hs
theorem Zgp (p s:Int):0<=cbN p s:=by
 by_cases h:s<0
 ·rw[ZcI h];exact ZuF _
 ·rw[Za1 (by omega)];omega
theorem ZcH {s:Int} (hs:0<=s):cbN 1 s=1:=by rw[Za1 hs];simp
theorem ZdT (p:Int):cbN p 0=1:=by rw[Za1 (ZuF _)];simp
theorem ZaZ {p s:Int} (hp:2<=p) (hs:0<=s):cbN p s=cbN p (s-1)+cbN (p-1) s:=by
 by_cases h:s=0
 ·subst h
  rw[ZcI (p:=p) (s:=0-1) (by omega),ZdT,ZdT];rfl
 ·rw[Za1 hs,Za1 (p:=p) (s:=s-1) (by omega),Za1 (p:=p-1) hs]
  obtain⟨t,ht⟩:∃t:Nat,s=t+1:=⟨(s-1).toNat,by omega⟩
  obtain⟨q,hq⟩:∃q:Nat,p=q+2:=⟨(p-2).toNat,by omega⟩
  subst ht
  subst hq
  rw[show ((t:Int)+1).toNat=t+1 by omega,show ((q:Int)+2-1).toNat=q+1 by omega,show ((t:Int)+1-1).toNat=t by omega,show ((q:Int)+2-1-1).toNat=q by omega,ZcO]
  omega
theorem ZdU {p s t:Int} (hp:1<=p) (h:s<=t):cbN p s<=cbN p t:=by
 by_cases hs:s<0
 ·rw[ZcI hs];exact Zgp p t
 ·obtain⟨d,rfl⟩:∃d:Nat,t=s+d:=⟨(t-s).toNat,by omega⟩
  induction d with
  |zero=>simp
  |succ d ih =>
   have ih:=ih (by omega)
   by_cases h1:p=1
   ·subst h1;rw[ZcH (by omega),ZcH (by omega)];omega
   ·have h2:=ZaZ (p:=p) (s:=s+((d+1:Nat):Int)) (by omega) (by omega)
    rw[show s+((d+1:Nat):Int)-1=s+(d:Int) by omega] at h2
    have:=Zgp (p-1) (s+((d+1:Nat):Int))
    omega
noncomputable def Zg7:List Int->Int
 |[]=>0
 |[_]=>0
 |_::y::r=>cbN (((y::r).length:Int)+1) ((y::r).sum-1)+Zg7 (y::r)
theorem Zbb:∀(l:List Int),l≠[]->(∀x∈l,0<=x)->0<=Zg7 l/\Zg7 l+1<=cbN l.length l.sum
 |[],h,_=>absurd rfl h
 |[x],_,hn=>by
  have hx:=hn x (by simp)
  simp only[Zg7,Ztl,Zuu,ZtR,List.sum_nil]
  rw[show ((0+1:Nat):Int)=1 by rfl,ZcH (by omega)]
  omega
 |x::y::r,_,hn=>by
  have hx:=hn x (by simp)
  have hr:∀z∈y::r,0<=z:=fun z hz=>hn z (by simp only[ZsZ] at hz ⊢;right;exact hz)
  have hs:=sum_nn hr
  obtain⟨h1,h2⟩:=Zbb (y::r) (by simp) hr
  rw[Zg7]
  have h3:=Zgp (((y::r).length:Int)+1) ((y::r).sum-1)
  refine⟨by omega, ?_⟩
  have h4:=ZaZ (p:=((y::r).length:Int)+1) (s:=(y::r).sum) (by simp only[Ztl];omega) hs
  rw[show ((y::r).length:Int)+1-1=(y::r).length by omega] at h4
  have h5:=ZdU (p:=((y::r).length:Int)+1) (s:=(y::r).sum) (t:=(x::y::r).sum) (by omega) (by simp only[ZtR];omega)
  rw[show (((x::y::r).length:Nat):Int)=((y::r).length:Int)+1 by simp only[Ztl];omega]
  omega
noncomputable def Zb3 (l:List Int):Int:=cbN l.length l.sum-1-Zg7 l
theorem Zf4 {l:List Int} (h:l≠[]) (hn:∀x∈l,0<=x):0<=Zb3 l/\Zb3 l<cbN l.length l.sum:=by
 have:=Zbb l h hn
 unfold Zb3
 omega
theorem Zf3:∀{a b:List Int},a.length=b.length->a.sum=b.sum->(∀x∈a,0<=x)->(∀x∈b,0<=x)->a≠[] ->
  (∃i,i<a.length/\(∀j,j<i->a.getD j 0=b.getD j 0)/\a.getD i 0<b.getD i 0)->Zg7 b<Zg7 a
 |[],_,_,_,_,_,h,_=>absurd rfl h
 |[x],b,hl,hs,_,_,_,hd=>by
  obtain⟨i,hi,h1,h2⟩:=hd
  simp at hi
  subst hi
  match b,hl with
  |[z],_=>simp at hs h2;omega
 |x::y::r,b,hl,hs,hna,hnb,_,hd=>by
  match b,hl with
  |z::w::q,hl =>
   have hra:∀v∈y::r,0<=v:=fun v hv=>hna v (by simp only[ZsZ] at hv ⊢;right;exact hv)
   have hrb:∀v∈w::q,0<=v:=fun v hv=>hnb v (by simp only[ZsZ] at hv ⊢;right;exact hv)
   have hlen:(y::r).length=(w::q).length:=by simpa using hl
   have sa:=sum_nn hra
   have sb:=sum_nn hrb
   obtain⟨i,hi,h1,h2⟩:=hd
   rw[Zg7,Zg7]
   have hsum:x+(y::r).sum=z+(w::q).sum:=by simpa[ZtR] using hs
   cases i with
   |zero =>
    have h2:x<z:=by simpa using h2
    obtain⟨b1,b2⟩:=Zbb (w::q) (by simp) hrb
    have a1:=(Zbb (y::r) (by simp) hra).1
    have h4:=ZaZ (p:=((w::q).length:Int)+1) (s:=(w::q).sum) (by simp only[Ztl];omega) sb
    rw[show ((w::q).length:Int)+1-1=(w::q).length by omega] at h4
    have h5:=ZdU (p:=((w::q).length:Int)+1) (s:=(w::q).sum) (t:=(y::r).sum-1) (by omega) (by omega)
    rw[hlen]
    omega
   |succ i =>
    have hxz:x=z:=by simpa using h1 0 (by omega)
    have ih:=Zf3 (a:=y::r) (b:=w::q) hlen (by omega) hra hrb (by simp) ⟨i,by simpa using hi,fun j hj=>by simpa using h1 (j+1) (by omega),by simpa using h2⟩
    rw[hlen,show (y::r).sum=(w::q).sum by omega]
    omega
end L2
namespace My
open L2
end My
namespace L2
end L2
namespace My
open L2
end My
namespace L2
noncomputable def tri:Nat->Int
 |0=>0
 |k+1=>tri k+(k+1)
noncomputable def adI (l:List Int) (k i:Nat):Int:=l.getD i 0-((k:Int)-i)
structure Zny (l:List Int) (k:Nat):Prop where
 lo:tri k<=l.sum
 hi:l.sum<tri (k+1)
 ad:∀i,i<=k->0<=adI l k i/\adI l k i<=1
 z:∀i,k<i->l.getD i 0=0
noncomputable def Znp:Bool:=(List.range 63).all fun n=>(List.range (n+1)).all fun m=>(List.range (n+1)).all fun a =>
 ((a*Nat.gcd (n+1) m%(n+1)==0)==(a%((n+1)/Nat.gcd (n+1) m)==0))&&(a*Nat.gcd (n+1) m/(n+1)==a/((n+1)/Nat.gcd (n+1) m))&&decide (a/((n+1)/Nat.gcd (n+1) m)<=Nat.gcd (n+1) m)&&decide (0<Nat.gcd (n+1) m)&&decide (0<(n+1)/Nat.gcd (n+1) m)&&decide (Nat.gcd (n+1) m<=n+1)
theorem Zln:Znp=true:=by decide +kernel
structure Gd (n m a:Nat):Prop where
 mod:a*Nat.gcd n m%n=0 ↔ a%(n/Nat.gcd n m)=0
 div:a*Nat.gcd n m/n=a/(n/Nat.gcd n m)
 le:a/(n/Nat.gcd n m)<=Nat.gcd n m
 p1:0<Nat.gcd n m
 p2:0<n/Nat.gcd n m
 le2:Nat.gcd n m<=n
theorem gd {n m a:Nat} (h1:n<=63) (hm:m<n) (ha:a<n):Gd n m a:=by
 have h:=ZtD.mp (ZtD.mp (ZtD.mp Zln (n-1) (Ztv.mpr (by omega))) m (Ztv.mpr (by omega))) a (Ztv.mpr (by omega))
 rw[show n-1+1=n by omega] at h
 simp only[Bool.and_eq_true,beq_iff_eq,decide_eq_true_eq] at h
 obtain⟨⟨⟨⟨⟨h1,h2⟩,h3⟩,h4⟩,h5⟩,h6⟩:=h
 refine⟨?_,h2,h3,h4,h5,h6⟩
 rw[<- beq_iff_eq (a:=a*Nat.gcd n m%n),<- beq_iff_eq (a:=a%(n/Nat.gcd n m)),h1]
end L2
namespace L2
open PySem
end L2
namespace My
open PySem L2
noncomputable def atD (q:Int) (n:Nat) (i:Nat):Int:=(q-((i:Int)+1))%n
noncomputable def QX (b:List Int) (q:Int):Option Nat:=(List.range (b.length-1)).find? fun i=>decide (0<b.getD (atD q b.length i).toNat 0)
noncomputable def ZiC (b:List Int) (q:Int):Int:=atD q b.length ((QX b q).getD 0)
noncomputable def gaS (q:Int) (b:List Int):List Int:=Jp b (ZiC b q)
noncomputable def gaI (q:Int):Nat->List Int->List Int
 |0,b=>b
 |k+1,b=>gaS q (gaI q k b)
theorem U8 (q:Int) (b:List Int):∀k,gaI q (k+1) b=gaI q k (gaS q b)
 |0=>rfl
 |k+1=>by rw[gaI,U8 q b k];rfl
structure Gb (n:Nat) (q S:Int) (b:List Int):Prop where
 len:b.length=n
 nn:∀x∈b,0<=x
 sum:b.sum=S
theorem Ql {b:List Int}{q:Int}{i:Nat} (h:QX b q=some i):i<b.length-1/\0<b.getD (atD q b.length i).toNat 0/\∀j,j<i->¬0<b.getD (atD q b.length j).toNat 0:=by
 unfold QX at h
 have h1:=List.find?_some h
 have h2:=List.mem_of_find?_eq_some h
 refine⟨Ztv.mp h2,of_decide_eq_true h1,fun j hj=>?_⟩
 rw[Zur] at h
 have:=h.2.2 j hj
 simpa using this
theorem Za8 {b:List Int}{q:Int} (h:QX b q=none):∀i,i<b.length-1->¬0<b.getD (atD q b.length i).toNat 0:=by
 unfold QX at h
 rw[Zuw] at h
 intro i hi
 have:=h i (Ztv.mpr hi)
 simpa using this
theorem Zkr {b:List Int}{q:Int}{i:Nat} (hi:i<b.length-1) (hp:0<b.getD (atD q b.length i).toNat 0):∃j,QX b q=some j/\j<=i:=by
 cases e:QX b q with
 |none=>exact absurd hp (Za8 e i hi)
 |some j =>
  refine⟨j,rfl, ?_⟩
  by_cases c:j<=i
  ·exact c
  ·exact absurd hp ((Ql e).2.2 i (by omega))
theorem ZhO {q:Int}{n i:Nat} (hn:0<n):0<=atD q n i/\atD q n i<n:=⟨Zts _ (by omega),Ztn _ (by omega)⟩
theorem Zd7 {n a r:Int} (hn:0<n) (h0:0<=r) (h1:r<n) (k:Int) (e:a=r+n*k):a%n=r:=by
 rw[e,Int.add_mul_emod_self_left]
 exact Zt9 h0 h1
theorem ZfV {q:Int}{n i:Nat} (hq0:0<=q) (hq:q<n) (hi:i<n-1):(q-atD q n i)%n=(i:Int)+1:=by
 unfold atD
 have e:=ZtP (q-((i:Int)+1)) n
 refine Zd7 (by omega) (by omega) (by omega) ((q-((i:Int)+1))/n) ?_
 omega
theorem ZmE {q:Int}{n i:Nat} (hq0:0<=q) (hq:q<n) (hi:i<n-1):atD q n i≠q:=by
 intro z
 have:=ZfV hq0 hq hi
 rw[z,ZuY,ZuS] at this
 omega
theorem Zdj {b:List Int}{p:Int}{x:Nat} (hx:x<b.length):(Jp b p).getD x 0=UK b p (b.getD p.toNat 0%b.length) x:=by
 unfold Jp tab
 rw[ZsO,Ztf,Zud hx];rfl
theorem Zio {n:Nat}{q S:Int}{b:List Int} (hn:2<=n) (h:Gb n q S b) {i:Nat} (hs:QX b q=some i):Gb n q S (gaS q b):=by
 have hl:=h.len
 have hb:=ZhO (q:=q) (n:=b.length) (i:=i) (by omega)
 have hp:ZiC b q=atD q b.length i:=by unfold ZiC;rw[hs];rfl
 unfold gaS
 rw[hp]
 refine⟨by rw[ZR];exact hl,fun x hx=>?_,by rw[ZaA hb.1 hb.2 (US h.nn _)];exact h.sum⟩
 unfold Jp tab at hx
 obtain⟨y,hy,rfl⟩:=Ztm.mp hx
 exact Zcg h.nn _ y (Ztv.mp hy)
noncomputable def gaM (n:Nat) (q S:Int) (b:List Int):Nat:=((S-b.getD q.toNat 0)*n).toNat+(match QX b q with
 |some i=>i+1
 |none=>0)
theorem Zc3 {b:List Int} (h:∀x∈b,0<=x) (i:Nat):b.getD i 0<=b.sum:=by
 by_cases c:i<b.length
 ·exact ZkW h _ (ZbG c)
 ·rw[L2.Qw (by omega)];exact L2.sum_nn h
theorem Zh2 {n:Nat}{q S:Int}{b:List Int} (hn:2<=n) (hq0:0<=q) (hq:q<n) (h:Gb n q S b) {i:Nat} (hs:QX b q=some i):gaM n q S (gaS q b)<gaM n q S b:=by
 have hl:=h.len
 have hok:=Zio hn h hs
 obtain⟨i1,i2,i3⟩:=Ql hs
 have hp:ZiC b q=atD q b.length i:=by unfold ZiC;rw[hs];rfl
 have hb:=ZhO (q:=q) (n:=b.length) (i:=i) (by omega)
 have hd:=ZfV (n:=b.length) hq0 (by omega) i1
 have hne:=ZmE (n:=b.length) hq0 (by omega) i1
 have hg:gaS q b=Jp b (atD q b.length i):=by unfold gaS;rw[hp]
 generalize hP:atD q b.length i=p at *
 have hqx:(Jp b p).getD q.toNat 0=b.getD q.toNat 0+b.getD p.toNat 0/b.length+(if (i:Int)+1<=b.getD p.toNat 0%b.length then 1 else 0):=by
  rw[Zdj (by omega)]
  unfold UK ZeQ ZhZ
  rw[if_neg (by omega),Zt0 hq0,hd]
  congr 1
  by_cases c:(i:Int)+1<=b.getD p.toNat 0%b.length
  ·rw[if_pos ⟨by omega,c⟩,if_pos c]
  ·rw[if_neg (fun z=>c z.2),if_neg c]
 have hle:=Zc3 hok.nn q.toNat
 rw[hok.sum] at hle
 unfold gaM
 rw[hs]
 rw[hg] at hle ⊢
 have hh0:0<=b.getD p.toNat 0/b.length:=ZuL (by omega) (by omega)
 have dn:∀c:List Int,c.length=n->(match QX c q with|some i=>i+1|none=>0)<=n-1:=by
  intro c hc
  cases e:QX c q with
  |none=>exact Ztp _
  |some j=>have:=(Ql e).1;simp only;omega
 have hdn:=dn (Jp b p) (by rw[ZR];exact hl)
 by_cases up:1<=b.getD p.toNat 0/b.length+(if (i:Int)+1<=b.getD p.toNat 0%b.length then 1 else 0)
 ·-- one more lies in the pit
  have h1:S-(Jp b p).getD q.toNat 0<=S-b.getD q.toNat 0-1:=by omega
  have h2:(S-(Jp b p).getD q.toNat 0)*n<=(S-b.getD q.toNat 0-1)*n:=Int.mul_le_mul_of_nonneg_right h1 (by omega)
  have h3:(S-b.getD q.toNat 0-1)*(n:Int)=(S-b.getD q.toNat 0)*n-n:=by rw[Int.sub_mul,Int.one_mul]
  have h4:0<=(S-(Jp b p).getD q.toNat 0)*(n:Int):=Int.mul_nonneg (by omega) (by omega)
  omega
 ·have z1:b.getD p.toNat 0/b.length=0:=by split at up<;>omega
  have z2:¬(i:Int)+1<=b.getD p.toNat 0%b.length:=by intro z;rw[if_pos z] at up;omega
  have hlt:b.getD p.toNat 0%b.length=b.getD p.toNat 0:=by
   have:=ZtP (b.getD p.toNat 0) b.length
   rw[z1,Int.mul_zero,ZuZ] at this
   exact this
  rw[hlt] at z2
  rw[z1,if_neg (by rw[hlt];exact z2),ZuZ,ZuZ] at hqx
  rw[hqx]
  have hh:b.getD p.toNat 0=((b.getD p.toNat 0).toNat:Int):=by omega
  generalize hk:(b.getD p.toNat 0).toNat=k at hh
  have k1:1<=k:=by omega
  have k2:k<i+1:=by omega
  have hnear:0<(Jp b p).getD (atD q (Jp b p).length (i-k)).toNat 0:=by
   rw[ZR]
   have hbb:=ZhO (q:=q) (n:=b.length) (i:=i-k) (by omega)
   rw[Zdj (by omega)]
   unfold UK
   have hA:0<=ZeQ b p (atD q b.length (i-k)).toNat:=by
    unfold ZeQ
    have:0<=(if (((atD q b.length (i-k)).toNat:Nat):Int)=p then 0 else b.getD (atD q b.length (i-k)).toNat 0):=by
     split
     ·exact ZuF _
     ·exact US h.nn _
    omega
   have hI:ZhZ b.length p (b.getD p.toNat 0%b.length) (atD q b.length (i-k)).toNat=1:=by
    apply JU
    rw[hlt,hh,Zt0 hbb.1]
    have:(atD q b.length (i-k)-p)%(b.length:Int)=k:=by
     rw[<- hP]
     unfold atD
     have e1:=ZtP (q-(((i-k:Nat):Int)+1)) b.length
     have e2:=ZtP (q-((i:Int)+1)) b.length
     refine Zd7 (by omega) (by omega) (by omega) (-((q-(((i-k:Nat):Int)+1))/(b.length:Int))+(q-((i:Int)+1))/(b.length:Int)) ?_
     rw[Int.mul_add,Int.mul_neg]
     omega
    rw[this]
    omega
   omega
  obtain⟨j,e,hj⟩:=Zkr (b:=Jp b p) (q:=q) (i:=i-k) (by rw[ZR];omega) hnear
  rw[e]
  simp only
  omega
theorem ZfQ {n:Nat}{q S:Int} (hn:2<=n) (hq0:0<=q) (hq:q<n):∀(m:Nat) (b:List Int),Gb n q S b->gaM n q S b<=m->∃k,k<=m/\QX (gaI q k b) q=none/\(∀j,j<k->QX (gaI q j b) q≠none)/\∀j,j<=k->Gb n q S (gaI q j b):=by
 intro m
 induction m with
 |zero =>
  intro b h hm
  cases e:QX b q with
  |none=>exact⟨0,ZsU _,e,fun j hj=>absurd hj (by omega),fun j hj=>by rw[show j=0 by omega];exact h⟩
  |some i=>unfold gaM at hm;rw[e] at hm;simp at hm
 |succ m ih =>
  intro b h hm
  cases e:QX b q with
  |none=>exact⟨0,Ztp _,e,fun j hj=>absurd hj (by omega),fun j hj=>by rw[show j=0 by omega];exact h⟩
  |some i =>
   have hl:=Zh2 hn hq0 hq h e
   obtain⟨k,k1,k2,k3,k4⟩:=ih (gaS q b) (Zio hn h e) (by omega)
   refine⟨k+1,by omega,by rw[U8];exact k2,fun j hj=>?_,fun j hj=>?_⟩
   ·cases j with
    |zero=>show QX b q≠none;rw[e];simp
    |succ j=>rw[U8];exact k3 j (by omega)
   ·cases j with
    |zero=>exact h
    |succ j=>rw[U8];exact k4 j (by omega)
theorem Zin {n:Nat}{q S:Int}{b:List Int} (hq0:0<=q) (hq:q<n) (h:Gb n q S b) (he:QX b q=none):b.getD q.toNat 0=S:=by
 have hl:=h.len
 have hz:∀x:Nat,x<b.length->(x:Int)≠q->b.getD x 0=0:=by
  intro x hx hne
  have d0:=Zts (q-x) (show (b.length:Int)≠0 by omega)
  have d1:=Ztn (q-x) (show (0:Int)<b.length by omega)
  have e:=ZtP (q-x) b.length
  have dz:(q-(x:Int))%b.length≠0:=by
   intro z
   rw[z,ZtX] at e
   have:(q-(x:Int))/b.length=0\/1<=(q-(x:Int))/b.length\/(q-(x:Int))/b.length<=-1:=by omega
   rcases this with w|w|w
   ·rw[w,Int.mul_zero] at e;omega
   ·have:=ZtQ w (show (0:Int)<=b.length by omega);omega
   ·have:=ZtQ w (show (0:Int)<=b.length by omega);omega
  have:=Za8 he (((q-(x:Int))%b.length).toNat-1) (by omega)
  have ea:atD q b.length (((q-(x:Int))%b.length).toNat-1)=x:=by
   unfold atD
   refine Zd7 (by omega) (by omega) (by omega) ((q-(x:Int))/b.length) ?_
   omega
  rw[ea,Ztr] at this
  have:=US h.nn x
  omega
 have hs:(b.set q.toNat 0).sum=b.sum-b.getD q.toNat 0+0:=L2.ZeM (by omega)
 have h0:(b.set q.toNat 0).sum=0:=by
  have:∀x∈b.set q.toNat 0,x=0:=by
   intro x hx
   obtain⟨i,hi,rfl⟩:=L2.mem_getD hx
   rw[ZtH] at hi
   rw[L2.getD_set (by omega)]
   split
   ·rfl
   ·exact hz i hi (by omega)
  have key:∀l:List Int,(∀x∈l,x=0)->l.sum=0:=by
   intro l
   induction l with
   |nil=>intro _;rfl
   |cons a l ih=>intro hl;rw[ZtR,hl a (by simp),ih fun x hx=>hl x (by simp[hx])];rfl
  exact key _ this
 have:=h.sum
 omega
end My
namespace L2
end L2
namespace My
open PySem L2
def Wide (ns:List Int):Prop:=∀x∈ns,0<=x/\x<=10^60
end My
namespace My
open L2
theorem ZmU:∀{x y:List Int},HT.ZD x y=true->∃i,i<y.length/\(∀j,j<i->x.getD j 0=y.getD j 0)/\(x.getD i 0<y.getD i 0\/x.length<=i)
 |[],[],h=>by simp[HT.ZD] at h
 |[],b::y,h=>⟨0,by simp,by simp,.inr (by simp)⟩
 |a::x,[],h=>by simp[HT.ZD] at h
 |a::x,b::y,h=>by
  rw[HT.JL] at h
  by_cases e:a=b
  ·rw[if_pos e] at h
   obtain⟨i,h1,h2,h3⟩:=ZmU h
   refine⟨i+1,by simp;exact h1,fun j hj=>?_, ?_⟩
   ·cases j with
    |zero=>simpa using e
    |succ j=>simpa using h2 j (by omega)
   ·rcases h3 with z|z
    ·exact .inl (by simpa using z)
    ·exact .inr (by simpa using z)
  ·rw[if_neg e] at h
   exact⟨0,by simp,by simp,.inl (by simpa using h)⟩
def Bs (n:Nat) (s:Int) (b:List Int):Prop:=b.length=n/\(∀x∈b,0<=x)/\b.sum=s
theorem Bs.sow {n:Nat}{s:Int}{b:List Int} (h:Bs n s b) {p:Int} (h0:0<=p) (h1:p<n):Bs n s (Jp b p):=by
 obtain⟨l,nn,sm⟩:=h
 refine⟨by rw[ZR];exact l,fun x hx=>?_,by rw[ZaA h0 (by omega) (US nn _)];exact sm⟩
 unfold Jp tab at hx
 obtain⟨y,hy,rfl⟩:=Ztm.mp hx
 exact Zcg nn _ y (Ztv.mp hy)
theorem Zd5:∀(n:Nat) (l:List Nat),l.Nodup->(∀x∈l,x<n)->l.length<=n:=by
 intro n
 induction n with
 |zero=>intro l _ h;cases l with
  |nil=>exact ZsU _
  |cons x l=>exact absurd (h x (by simp)) (by omega)
 |succ n ih =>
  intro l hd h
  have e:=ih (l.erase n) (hd.erase n) (fun x hx=>by
   have:=h x (List.mem_of_mem_erase hx)
   have:x≠n:=fun z=>by subst z;exact(List.Nodup.mem_erase_iff hd).mp hx |>.1 rfl
   omega)
  by_cases c:n∈l
  ·rw[List.length_erase_of_mem c] at e;omega
  ·rw[List.erase_of_not_mem c] at e;omega
theorem Zig {a b:List Int} (hl:a.length=b.length) (hs:a.sum=b.sum) (ha:∀x∈a,0<=x) (hb:∀x∈b,0<=x) (h:HT.ZD a b=true):Zb3 a≠Zb3 b:=by
 obtain⟨i,i1,i2,i3⟩:=ZmU h
 have:=Zf3 hl hs ha hb (fun z=>by rw[z] at hl;simp at hl;omega) ⟨i,by omega,i2,by omega⟩
 unfold Zb3
 rw[hl,hs]
 omega
theorem Zf2 {a b:List Int} (hl:a.length=b.length) (hs:a.sum=b.sum) (ha:∀x∈a,0<=x) (hb:∀x∈b,0<=x) (h:Zb3 a=Zb3 b):a=b:=by
 cases h1:HT.ZD a b with
 |true=>exact absurd h (Zig hl hs ha hb h1)
 |false =>
  cases h2:HT.ZD b a with
  |true=>exact absurd h.symm (Zig hl.symm hs.symm hb ha h2)
  |false=>exact HL.JP h1 h2
theorem ZlC {n:Nat}{s:Int} (hn:1<=n) {L:List (List Int)} (nd:L.Nodup) (hL:∀x∈L,Bs n s x):L.length<=(cbN n s).toNat:=by
 have hb:∀x∈L,0<=Zb3 x/\Zb3 x<cbN n s:=fun x hx=>by
  obtain⟨l,nn,sm⟩:=hL x hx
  have:=Zf4 (l:=x) (fun z=>by rw[z] at l;simp at l;omega) nn
  rw[l,sm] at this
  exact this
 have h:=Zd5 (cbN n s).toNat (L.map fun x=>(Zb3 x).toNat) (by
  rw[ZtM,Zub]
  refine(ZtM.mp nd).imp_of_mem ?_
  intro a b ha hb' hab e
  obtain⟨l,nn,sm⟩:=hL a ha
  obtain⟨l',nn',sm'⟩:=hL b hb'
  have:=hb a ha
  have:=hb b hb'
  exact hab (Zf2 (by omega) (by omega) nn nn' (by omega))) (fun z hz=>by
  obtain⟨x,hx,rfl⟩:=Ztm.mp hz
  have:=hb x hx
  omega)
 rw[ZsV] at h
 exact h
inductive Rch (P:List Int) (b:List Int):List Int->Prop
 |refl:Rch P b b
 |step {x:List Int}{p:Int}:Rch P b x->p∈P->0<x.getD p.toNat 0->Rch P b (Jp x p)
theorem Rch.trans {P a b c:List Int} (h1:Rch P a b) (h2:Rch P b c):Rch P a c:=by
 induction h2 with
 |refl=>exact h1
 |step _ hp hx ih=>exact .step ih hp hx
theorem Rch.bs {P b:List Int}{n:Nat}{s:Int} (hP:∀p∈P,0<=p/\p<n) (hb:Bs n s b) {x:List Int} (h:Rch P b x):Bs n s x:=by
 induction h with
 |refl=>exact hb
 |step _ hp hx ih=>exact ih.sow (hP _ hp).1 (hP _ hp).2
noncomputable def Uw (P:List Int) (x:List Int):List (Int×List Int):=(P.filter fun p=>decide (0<x.getD p.toNat 0)).map fun p=>(p,Jp x p)
theorem Uv {P x:List Int}{y:Int×List Int}:y∈Uw P x ↔ y.1∈P/\0<x.getD y.1.toNat 0/\y.2=Jp x y.1:=by
 unfold Uw
 constructor
 ·intro h
  obtain⟨p,hp,rfl⟩:=Ztm.mp h
  obtain⟨h1,h2⟩:=Zug.mp hp
  exact⟨h1,of_decide_eq_true h2,rfl⟩
 ·rintro⟨h1,h2,h3⟩
  refine Ztm.mpr ⟨y.1,Zug.mpr ⟨h1,decide_eq_true h2⟩, ?_⟩
  rw[<- h3]
noncomputable abbrev NB:=List (List Int)×List (List Int)×List PV
noncomputable def stB (x:List Int) (st:NB) (y:Int×List Int):NB:=if y.2∈st.2.1 then st else (st.1++[y.2],st.2.1++[y.2],st.2.2++[.tup [Jd x,.int y.1]])
noncomputable def bdB (P x:List Int) (st:NB):NB:=(Uw P x).foldl (stB x) st
noncomputable def lvB (P:List Int) (lv:List (List Int)) (st:NB):NB:=lv.foldl (fun st x=>bdB P x st) st
structure Fo (R:List Int->Prop) (bs0:List (List Int)) (st:NB):Prop where
 app:st.2.1=bs0++st.1
 nd:st.2.1.Nodup
 re:∀x∈st.2.1,R x
 ln:st.2.2.length=st.2.1.length
 fl:PV.flats st.2.2=true
theorem Zau:∀(xs:List PV) (y:PV),PV.flats xs=true->PV.flat y=true->PV.flats (xs++[y])=true
 |[],y,_,h=>by simp[PV.flats,h]
 |x::xs,y,h1,h2=>by
  simp only[PV.flats,Bool.and_eq_true] at h1
  simp only[Zue,PV.flats,Bool.and_eq_true]
  exact⟨h1.1,Zau xs y h1.2 h2⟩
section
variable {R:List Int->Prop}{bs0:List (List Int)}{st:NB}
theorem Fo.one (h:Fo R bs0 st) {x:List Int}{y:Int×List Int} (hy:R y.2):Fo R bs0 (stB x st y)/\(∀z∈st.2.1,z∈(stB x st y).2.1)/\y.2∈(stB x st y).2.1:=by
 unfold stB
 split
 ·rename_i c
  exact⟨h,fun z hz=>hz,c⟩
 ·rename_i c
  refine⟨⟨by simp[h.app], ?_,fun z hz=>?_,by simp[h.ln], ?_⟩,fun z hz=>by simp[hz],by simp⟩
  ·show (st.2.1++[y.2]).Nodup
   rw[Zuc]
   refine⟨h.nd,by simp,fun a ha b hb e=>?_⟩
   rw[Zti.mp hb] at e
   rw[e] at ha
   exact c ha
  ·rcases ZsS.mp hz with hz|hz
   ·exact h.re z hz
   ·rw[Zti.mp hz];exact hy
  ·exact Zau _ _ h.fl (by simp only[PV.flat,PV.flats,Vh,Bool.and_self])
theorem Fo.fold {x:List Int}:∀{L:List (Int×List Int)}{st:NB},Fo R bs0 st->(∀y∈L,R y.2)->Fo R bs0 (L.foldl (stB x) st)/\(∀z∈st.2.1,z∈(L.foldl (stB x) st).2.1)/\∀y∈L,y.2∈(L.foldl (stB x) st).2.1
 |[],st,h,_=>⟨h,fun z hz=>hz,by simp⟩
 |y::L,st,h,hL=>by
  obtain⟨a1,a2,a3⟩:=h.one (x:=x) (hL y (by simp))
  obtain⟨b1,b2,b3⟩:=Fo.fold (x:=x) (L:=L) a1 fun z hz=>hL z (by simp[hz])
  refine⟨b1,fun z hz=>b2 z (a2 z hz),fun z hz=>?_⟩
  rcases ZsZ.mp hz with rfl|hz
  ·exact b2 _ a3
  ·exact b3 z hz
end
section
variable {P b:List Int}{bs0:List (List Int)}
theorem Fo.lv:∀{lv:List (List Int)}{st:NB},Fo (Rch P b) bs0 st->(∀x∈lv,Rch P b x)->Fo (Rch P b) bs0 (lvB P lv st)/\(∀z∈st.2.1,z∈(lvB P lv st).2.1)/\∀x∈lv,∀p∈P,0<x.getD p.toNat 0->Jp x p∈(lvB P lv st).2.1
 |[],st,h,_=>⟨h,fun z hz=>hz,by simp⟩
 |x::lv,st,h,hL=>by
  obtain⟨a1,a2,a3⟩:=Fo.fold (x:=x) (L:=Uw P x) h fun y hy=>by
   obtain⟨h1,h2,h3⟩:=Uv.mp hy
   rw[h3]
   exact .step (hL x (by simp)) h1 h2
  obtain⟨b1,b2,b3⟩:=Fo.lv (lv:=lv) a1 fun z hz=>hL z (by simp[hz])
  refine⟨b1,fun z hz=>b2 z (a2 z hz),fun z hz p hp hx=>?_⟩
  rcases ZsZ.mp hz with rfl|hz
  ·exact b2 _ (a3 (p,Jp z p) (Uv.mpr ⟨hp,hx,rfl⟩))
  ·exact b3 z hz p hp hx
end
noncomputable def wk (P b:List Int):Nat->NB
 |0=>([b],[b],[.non])
 |i+1=>lvB P (wk P b i).1 ([],(wk P b i).2)
structure Wk (P b:List Int) (st:NB):Prop where
 nd:st.2.1.Nodup
 re:∀x∈st.2.1,Rch P b x
 sub:∀x∈st.1,x∈st.2.1
 cl:∀x∈st.2.1,x∈st.1\/∀p∈P,0<x.getD p.toNat 0->Jp x p∈st.2.1
 bg:b∈st.2.1
 ln:st.2.2.length=st.2.1.length
 fl:PV.flats st.2.2=true
theorem JZ (P b:List Int):∀i,Wk P b (wk P b i)
 |0=>⟨by simp[wk],fun x hx=>by rw[Zti.mp hx];exact .refl,fun x hx=>hx,fun x hx=>.inl hx,by simp[wk],rfl,rfl⟩
 |i+1=>by
  have h:=JZ P b i
  have f0:Fo (Rch P b) (wk P b i).2.1 ([],(wk P b i).2):=⟨by simp,h.nd,h.re,h.ln,h.fl⟩
  obtain⟨a1,a2,a3⟩:=Fo.lv f0 fun x hx=>h.re x (h.sub x hx)
  show Wk P b (lvB P (wk P b i).1 ([],(wk P b i).2))
  refine⟨a1.nd,a1.re,fun x hx=>?_,fun x hx=>?_,a2 _ h.bg,a1.ln,a1.fl⟩
  ·rw[a1.app];exact ZsS.mpr (.inr hx)
  ·rw[a1.app] at hx
   rcases ZsS.mp hx with hx|hx
   ·right
    intro p hp hp0
    rcases h.cl x hx with c|c
    ·exact a3 x c p hp hp0
    ·exact a2 _ (c p hp hp0)
   ·exact .inl hx
theorem Ur (P b:List Int) (i:Nat):(wk P b (i+1)).2.1=(wk P b i).2.1++(wk P b (i+1)).1:=by
 have h:=JZ P b i
 have f0:Fo (Rch P b) (wk P b i).2.1 ([],(wk P b i).2):=⟨by simp,h.nd,h.re,h.ln,h.fl⟩
 exact(Fo.lv f0 fun x hx=>h.re x (h.sub x hx)).1.app
theorem ZcZ (P b:List Int):∀i,(∀j,j<=i->(wk P b j).1≠[])->i+1<=(wk P b i).2.1.length
 |0,_=>by simp[wk]
 |i+1,h=>by
  have ih:=ZcZ P b i fun j hj=>h j (by omega)
  rw[Ur,Zt7]
  have:=ZuG.mpr (h (i+1) (ZsU _))
  omega
noncomputable def wkN (P b:List Int):Nat:=((List.range 1001).find? fun i=>(wk P b i).1.isEmpty).getD 0
structure ZeB (n:Nat) (s:Int) (P b:List Int):Prop where
 n1:1<=n
 hP:∀p∈P,0<=p/\p<n
 hb:Bs n s b
 few:cbN n s<=1000
theorem ZeB.le {n:Nat}{s:Int}{P b:List Int} (h:ZeB n s P b) (i:Nat):(wk P b i).2.1.length<=1000:=by
 have:=ZlC h.n1 (JZ P b i).nd fun x hx=>((JZ P b i).re x hx).bs h.hP h.hb
 have:=h.few
 omega
theorem ZeB.end {n:Nat}{s:Int}{P b:List Int} (h:ZeB n s P b):wkN P b<=1000/\(wk P b (wkN P b)).1=[]/\∀j,j<wkN P b->(wk P b j).1≠[]:=by
 have hex:∃i,i<1001/\(wk P b i).1=[]:=by
  apply Classical.byContradiction
  intro c
  have:=ZcZ P b 1000 fun j hj e=>c ⟨j,by omega,e⟩
  have:=h.le 1000
  omega
 obtain⟨t,t1,t2⟩:=hex
 unfold wkN
 cases hf:(List.range 1001).find? fun i=>(wk P b i).1.isEmpty with
 |none =>
  have:=Zuw.mp hf t (Ztv.mpr t1)
  rw[t2] at this
  exact absurd rfl this
 |some q =>
  obtain⟨q1,q2,q3⟩:=Zur.mp hf
  refine⟨by have:=Ztv.mp q2;simp only[Zu8];omega,List.isEmpty_iff.mp q1,fun j hj e=>?_⟩
  have:=q3 j hj
  simp[e] at this
noncomputable def Znl (P b:List Int):List (List Int):=(wk P b (wkN P b)).2.1
theorem ZeB.mem {n:Nat}{s:Int}{P b:List Int} (h:ZeB n s P b) {x:List Int}:x∈Znl P b ↔ Rch P b x:=by
 have W:=JZ P b (wkN P b)
 have e:=h.end.2.1
 constructor
 ·exact fun hx=>W.re x hx
 ·intro hx
  induction hx with
  |refl=>exact W.bg
  |step _ hp h0 ih =>
   rcases W.cl _ ih with c|c
   ·rw[e] at c;cases c
   ·exact c _ hp h0
noncomputable def endB (P x:List Int):Bool:=P.all fun p=>decide (x.getD p.toNat 0=0)
section
variable {n:Nat}{s:Int}{P b:List Int} (F:ZeB n s P b)
include F
end
end My
namespace My
open PySem L2
theorem ZfP {n:Nat}{q S:Int}{b:List Int} (hq0:0<=q) (hq:q<n) (h:Gb n q S b) (he:QX b q=none):∀x:Nat,x<b.length->(x:Int)≠q->b.getD x 0=0:=by
 have hl:=h.len
 intro x hx hne
 have d0:=Zts (q-x) (show (b.length:Int)≠0 by omega)
 have d1:=Ztn (q-x) (show (0:Int)<b.length by omega)
 have e:=ZtP (q-x) b.length
 have dz:(q-(x:Int))%b.length≠0:=by
  intro z
  rw[z,ZtX] at e
  have:(q-(x:Int))/b.length=0\/1<=(q-(x:Int))/b.length\/(q-(x:Int))/b.length<=-1:=by omega
  rcases this with w|w|w
  ·rw[w,Int.mul_zero] at e;omega
  ·have:=ZtQ w (show (0:Int)<=b.length by omega);omega
  ·have:=ZtQ w (show (0:Int)<=b.length by omega);omega
 have:=Za8 he (((q-(x:Int))%b.length).toNat-1) (by omega)
 have ea:atD q b.length (((q-(x:Int))%b.length).toNat-1)=x:=by
  unfold atD
  refine Zd7 (by omega) (by omega) (by omega) ((q-(x:Int))/b.length) ?_
  omega
 rw[ea,Ztr] at this
 have:=US h.nn x
 omega
theorem Zjt {n:Nat}{q S:Int}{b c:List Int} (hq0:0<=q) (hq:q<n) (h:Gb n q S b) (h':Gb n q S c) (he:QX b q=none) (he':QX c q=none):b=c:=by
 have l1:=h.len
 have l2:=h'.len
 apply ZuA
 ·omega
 ·intro i h1 h2
  have e:b.getD i 0=c.getD i 0:=by
   by_cases z:(i:Int)=q
   ·have a1:=Zin hq0 hq h he
    have a2:=Zin hq0 hq h' he'
    rw[<- z,Ztr] at a1 a2
    rw[a1,a2]
   ·rw[ZfP hq0 hq h he i h1 z,ZfP hq0 hq h' he' i h2 z]
  rw[ZsO,ZsO,ZsP h1,ZsP h2] at e
  exact e
end My
namespace My
open L2
theorem Zas {a:List Int×Int} (h:UT a.1 a.2) {m:Nat}:∀i,its Va (i+m) a=its Va i a->its Va m a=a
 |0,e=>by rw[ZtA] at e;exact e
 |i+1,e=>by
  refine Zas h i ?_
  have e1:its Va (i+1+m) a=Va (its Va (i+m) a):=by rw[show i+1+m=(i+m)+1 by omega];rfl
  have e2:its Va (i+1) a=Va (its Va i a):=rfl
  rw[e1,e2] at e
  have e3:=congrArg tbS e
  rw[ZhV (ZjS h _),ZhV (ZjS h _)] at e3
  exact e3
noncomputable def Jc (n:Nat):List Int:=(List.range n).map fun(i:Nat)=>(i:Int)
theorem UD {n:Nat}{p:Int}:p∈Jc n ↔ 0<=p/\p<n:=by
 unfold Jc
 constructor
 ·intro h
  obtain⟨i,hi,rfl⟩:=Ztm.mp h
  have:=Ztv.mp hi
  omega
 ·intro h
  exact Ztm.mpr ⟨p.toNat,Ztv.mpr (by omega),by omega⟩
theorem ZbA {n:Nat}{s:Int}{x:List Int}{p:Int} (hB:Bs n s x) (h:UT x p):∀m,Bs n s (its Va m (x,p)).1
 |0=>hB
 |m+1=>by
  have S:=ZjS (a:=(x,p)) h m
  have ih:=ZbA hB h m
  have l:=ih.1
  exact ih.sow S.lo (by have:=S.hi;omega)
theorem ZfG {n:Nat}{s:Int}{x:List Int}{p:Int} (hB:Bs n s x) (h:UT x p) (i:Nat):∀m,Rch (Jc n) (its Va i (x,p)).1 (its Va (i+m) (x,p)).1
 |0=>.refl
 |m+1=>by
  have S:=ZjS (a:=(x,p)) h (i+m)
  have l:=(ZbA hB h (i+m)).1
  have hi:=S.hi
  exact Rch.step (x:=(its Va (i+m) (x,p)).1) (p:=(its Va (i+m) (x,p)).2) (ZfG hB h i m) (UD.mpr ⟨S.lo,by rw[l] at hi;exact hi⟩) S.pos
theorem Zk4 {n:Nat}{s:Int}{x:List Int}{p:Int} (hB:Bs n s x) (h:UT x p):∃m,its Va (m+1) (x,p)=(x,p):=by
 apply Classical.byContradiction
 intro c
 have hne:∀i m,its Va (i+(m+1)) (x,p)≠its Va i (x,p):=fun i m e=>c ⟨m,Zas (a:=(x,p)) h i e⟩
 have n1:1<=n:=by have:=h.lo;have:=h.hi;have:=hB.1;omega
 have cd:∀i,(0<=Zb3 (its Va i (x,p)).1/\Zb3 (its Va i (x,p)).1<cbN n s)/\0<=(its Va i (x,p)).2/\(its Va i (x,p)).2<n:=fun i=>by
  have B:=ZbA hB h i
  have S:=ZjS (a:=(x,p)) h i
  have l:=B.1
  have:=Zf4 (l:=(its Va i (x,p)).1) (fun z=>by rw[z] at l;simp at l;omega) B.2.1
  rw[l,B.2.2] at this
  exact⟨this,S.lo,by have:=S.hi;omega⟩
 have key:=Zd5 ((cbN n s).toNat*n) ((List.range ((cbN n s).toNat*n+1)).map fun i=>(its Va i (x,p)).2.toNat+(Zb3 (its Va i (x,p)).1).toNat*n) (by
  rw[ZtM,Zub]
  refine(List.pairwise_lt_range (n:=(cbN n s).toNat*n+1)).imp ?_
  intro i j hij e
  obtain⟨⟨a1,a2⟩,a3,a4⟩:=cd i
  obtain⟨⟨b1,b2⟩,b3,b4⟩:=cd j
  have d1:=congrArg (fun z=>z/n) e
  have d2:=congrArg (fun z=>z%n) e
  simp only[Nat.add_mul_div_right _ _ n1,Nat.add_mul_mod_self_right] at d1 d2
  rw[Nat.div_eq_of_lt (by omega),Nat.div_eq_of_lt (by omega)] at d1
  rw[Nat.mod_eq_of_lt (by omega),Nat.mod_eq_of_lt (by omega)] at d2
  have Bi:=ZbA hB h i
  have Bj:=ZbA hB h j
  have eb:=Zf2 (by rw[Bi.1,Bj.1]) (by rw[Bi.2.2,Bj.2.2]) Bi.2.1 Bj.2.1 (show Zb3 (its Va i (x,p)).1=Zb3 (its Va j (x,p)).1 by omega)
  have ep:(its Va i (x,p)).2=(its Va j (x,p)).2:=by omega
  refine hne i (j-i-1) ?_
  rw[show i+(j-i-1+1)=j by omega]
  exact(Prod.ext eb ep).symm) (fun z hz=>by
  obtain⟨i,_,rfl⟩:=Ztm.mp hz
  obtain⟨⟨a1,a2⟩,a3,a4⟩:=cd i
  have h1:(Zb3 (its Va i (x,p)).1).toNat+1<=(cbN n s).toNat:=by omega
  have h2:=Nat.mul_le_mul_right n h1
  rw[ZuM,Nat.one_mul] at h2
  omega)
 rw[ZsV,Zu1] at key
 omega
theorem ZgN {n:Nat}{s:Int}{x:List Int}{p:Int} (hB:Bs n s x) (h:UT x p):Rch (Jc n) (Jp x p) x:=by
 obtain⟨m,e⟩:=Zk4 hB h
 have:=ZfG hB h 1 m
 rw[show 1+m=m+1 by omega,e] at this
 exact this
theorem Zc4 {n:Nat}{s:Int} (hn:2<=n) (hn2:n<=24) (hs:s<=10^60) {b:List Int}:∀k,(∀j,j<k->QX (gaI 0 j b) 0≠none)->(∀j,j<=k->Gb n 0 s (gaI 0 j b))->Rch (Jc n) b (gaI 0 k b)/\Rch (Jc n) (gaI 0 k b) b
 |0,_,_=>⟨.refl,.refl⟩
 |k+1,h1,h2=>by
  obtain⟨r1,r2⟩:=Zc4 hn hn2 hs k (fun j hj=>h1 j (by omega)) (fun j hj=>h2 j (by omega))
  have G:=h2 k (by omega)
  have hB:Bs n s (gaI 0 k b):=⟨G.len,G.nn,G.sum⟩
  obtain⟨i,hi⟩:=Option.ne_none_iff_exists'.mp (h1 k (by omega))
  obtain⟨i1,i2,_⟩:=Ql hi
  have l:=G.len
  have eP:ZiC (gaI 0 k b) 0=atD 0 (gaI 0 k b).length i:=by unfold ZiC;rw[hi];rfl
  have bd:=ZhO (q:=0) (n:=(gaI 0 k b).length) (i:=i) (by omega)
  have e:gaI 0 (k+1) b=Jp (gaI 0 k b) (atD 0 (gaI 0 k b).length i):=by rw[<- eP];rfl
  have S:UT (gaI 0 k b) (atD 0 (gaI 0 k b).length i):=⟨⟨by omega,by omega,G.nn,by rw[G.sum];exact hs⟩,bd.1,bd.2,i2⟩
  rw[e]
  exact⟨.step r1 (UD.mpr ⟨bd.1,by omega⟩) i2,(ZgN hB S).trans r2⟩
theorem ZjK {n:Nat}{s:Int} (hn:2<=n) (hn2:n<=24) (hs:s<=10^60) {b o:List Int} (hb:Bs n s b) (ho:Bs n s o):Rch (Jc n) b o:=by
 obtain⟨k,_,k2,k3,k4⟩:=ZfQ (n:=n) (q:=0) (S:=s) hn (by omega) (by omega) (gaM n 0 s b) b ⟨hb.1,hb.2.1,hb.2.2⟩ (ZsU _)
 obtain⟨j,_,j2,j3,j4⟩:=ZfQ (n:=n) (q:=0) (S:=s) hn (by omega) (by omega) (gaM n 0 s o) o ⟨ho.1,ho.2.1,ho.2.2⟩ (ZsU _)
 have e:=Zjt (n:=n) (q:=0) (S:=s) (by omega) (by omega) (k4 k (ZsU _)) (j4 j (ZsU _)) k2 j2
 have r1:=(Zc4 hn hn2 hs k k3 k4).1
 have r2:=(Zc4 hn hn2 hs j j3 j4).2
 rw[e] at r1
 exact r1.trans r2
theorem Ziv:∀{ks:List (List Key)}{xs:List PV}{k:List Key}{v:PV}{j:Nat},ks.Nodup->ks[j]?=some k->xs[j]?=some v->atK ks xs k=some v
 |[],_,_,_,_,_,h,_=>by simp at h
 |k'::ks,[],_,_,_,_,_,h=>by simp at h
 |k'::ks,x::xs,k,v,0,_,h1,h2=>by
  simp at h1 h2
  subst h1 h2
  simp[atK]
 |k'::ks,x::xs,k,v,j+1,nd,h1,h2=>by
  simp only[Zut] at h1 h2
  obtain⟨n1,n2⟩:=Zuh.mp nd
  have:k'≠k:=fun e=>n1 (by rw[e];exact ZsQ h1)
  have ih:=Ziv n2 h1 h2
  simp only[atK]
  rw[if_neg this]
  exact ih
def Pa (lv:List (List Int)) (P:List Int) (vs0:List PV) (st:NB):Prop:=∃nv:List PV,st.2.2=vs0++nv/\nv.length=st.1.length/\∀(i:Nat) (z:List Int),st.1[i]?=some z->∃x p,x∈lv/\p∈P/\0<x.getD p.toNat 0/\z=Jp x p/\nv[i]?=some (.tup [Jd x,.int p])
theorem Pa.one {lv:List (List Int)}{P:List Int}{vs0:List PV}{st:NB} (h:Pa lv P vs0 st) {x:List Int} (hx:x∈lv) {y:Int×List Int} (hy:y∈Uw P x):Pa lv P vs0 (stB x st y):=by
 obtain⟨nv,h1,h2,h3⟩:=h
 obtain⟨y1,y2,y3⟩:=Uv.mp hy
 unfold stB
 split
 ·exact⟨nv,h1,h2,h3⟩
 ·refine⟨nv++[.tup [Jd x,.int y.1]],by simp[h1],by simp[h2],fun i z hz=>?_⟩
  by_cases c:i<st.1.length
  ·have hz:(st.1++[y.2])[i]?=some z:=hz
   rw[Ztb c] at hz
   obtain⟨x',p',a1,a2,a3,a4,a5⟩:=h3 i z hz
   exact⟨x',p',a1,a2,a3,a4,by rw[Ztb (by omega)];exact a5⟩
  ·have hz:(st.1++[y.2])[i]?=some z:=hz
   rw[ZsY (by omega)] at hz
   have hi:i-st.1.length=0:=by
    have:=(ZsR.mp hz).1
    simp at this
    omega
   rw[hi] at hz
   simp at hz
   refine⟨x,y.1,hx,y1,y2,by rw[<- hz,y3], ?_⟩
   rw[ZsY (by omega),show i-nv.length=0 by omega];rfl
theorem Pa.fold {lv:List (List Int)}{P:List Int}{vs0:List PV}{x:List Int} (hx:x∈lv):∀{L:List (Int×List Int)}{st:NB},Pa lv P vs0 st->(∀y∈L,y∈Uw P x)->Pa lv P vs0 (L.foldl (stB x) st)
 |[],st,h,_=>h
 |y::L,st,h,hL=>by
  rw[Zua]
  exact Pa.fold hx (L:=L) (h.one hx (hL y (by simp))) fun z hz=>hL z (by simp[hz])
theorem Pa.lv {lv:List (List Int)}{P:List Int}{vs0:List PV}:∀{L:List (List Int)}{st:NB},Pa lv P vs0 st->(∀x∈L,x∈lv)->Pa lv P vs0 (lvB P L st)
 |[],st,h,_=>h
 |x::L,st,h,hL=>by
  show Pa lv P vs0 (lvB P L (bdB P x st))
  exact Pa.lv (L:=L) (Pa.fold (hL x (by simp)) h fun y hy=>hy) fun z hz=>hL z (by simp[hz])
theorem Zkb (P b:List Int) (i:Nat):Pa (wk P b i).1 P (wk P b i).2.2 (wk P b (i+1)):=
 Pa.lv (st:=([],(wk P b i).2)) ⟨[],by simp,rfl,fun i z h=>by simp at h⟩ fun x hx=>hx
theorem Zkl {bs:List (List Int)} (h:bs.Nodup):(bs.map tI).Nodup:=by
 rw[ZtM,Zub]
 exact(ZtM.mp h).imp fun hab e=>hab (ZeH e)
theorem Zcb (P b:List Int) {k:List Int}{v:PV} (i:Nat) (h:atK ((wk P b i).2.1.map tI) (wk P b i).2.2 (tI k)=some v):∀m,atK ((wk P b (i+m)).2.1.map tI) (wk P b (i+m)).2.2 (tI k)=some v
 |0=>h
 |m+1=>by
  have ih:=Zcb P b i h m
  obtain⟨nv,h1,h2,_⟩:=Zkb P b (i+m)
  rw[show i+(m+1)=i+m+1 by omega,Ur,h1,ZtI]
  exact Zg1 (by rw[ZsV];exact(JZ P b (i+m)).ln.symm) ih
theorem Zi2 (P b:List Int) (m:Nat):atK ((wk P b m).2.1.map tI) (wk P b m).2.2 (tI b)=some .non:=by
 have:=Zcb P b (k:=b) (v:=.non) 0 (by simp[wk,atK]) m
 rw[ZtA] at this
 exact this
theorem ZhS {P b:List Int}{i:Nat}{x:List Int} (hx:x∈(wk P b (i+1)).1):∃y p,y∈(wk P b i).1/\p∈P/\0<y.getD p.toNat 0/\x=Jp y p/\∀m,i+1<=m->atK ((wk P b m).2.1.map tI) (wk P b m).2.2 (tI x)=some (.tup [Jd y,.int p]):=by
 obtain⟨nv,h1,h2,h3⟩:=Zkb P b i
 obtain⟨j,j1,j2⟩:=ZuK hx
 have hj:(wk P b (i+1)).1[j]?=some x:=by rw[ZsP j1,j2]
 obtain⟨y,p,a1,a2,a3,a4,a5⟩:=h3 j x hj
 have W:=JZ P b (i+1)
 have W0:=JZ P b i
 refine⟨y,p,a1,a2,a3,a4,fun m hm=>?_⟩
 have base:atK ((wk P b (i+1)).2.1.map tI) (wk P b (i+1)).2.2 (tI x)=some (.tup [Jd y,.int p]):=by
  refine Ziv (j:=(wk P b i).2.1.length+j) (Zkl W.nd) ?_ ?_
  ·rw[Ztf,Ur,ZsY (by omega),Nat.add_sub_cancel_left,hj];rfl
  ·rw[h1,ZsY (by rw[W0.ln];omega),W0.ln,Nat.add_sub_cancel_left];exact a5
 have:=Zcb P b (i+1) base (m-(i+1))
 rw[show i+1+(m-(i+1))=m by omega] at this
 exact this
theorem Zkc {P b:List Int}{i:Nat}{z:List Int}:z∈(wk P b (i+1)).1 ↔ (∃x∈(wk P b i).1,∃p∈P,0<x.getD p.toNat 0/\z=Jp x p)/\z ∉ (wk P b i).2.1:=by
 have h:=JZ P b i
 have W:=JZ P b (i+1)
 have f0:Fo (Rch P b) (wk P b i).2.1 ([],(wk P b i).2):=⟨by simp,h.nd,h.re,h.ln,h.fl⟩
 obtain⟨a1,a2,a3⟩:=Fo.lv f0 fun x hx=>h.re x (h.sub x hx)
 constructor
 ·intro hz
  obtain⟨y,p,b1,b2,b3,b4,_⟩:=ZhS hz
  refine⟨⟨y,b1,p,b2,b3,b4⟩,fun hk=>?_⟩
  have nd:=W.nd
  rw[Ur,Zuc] at nd
  exact nd.2.2 z hk z hz rfl
 ·rintro⟨⟨x,hx,p,hp,h0,rfl⟩,hk⟩
  have:Jp x p∈(wk P b (i+1)).2.1:=a3 x hx p hp h0
  rw[Ur] at this
  rcases ZsS.mp this with c|c
  ·exact absurd c hk
  ·exact c
theorem ZcY (P b:List Int):∀i,(wk P b i).1.Nodup
 |0=>by simp[wk]
 |i+1=>by
  have nd:=(JZ P b (i+1)).nd
  rw[Ur,Zuc] at nd
  exact nd.2.1
structure Ze7 (ks:List (List Key)) (vs:List PV) (N:Nat) (ys:Nat->List Int) (ps:Nat->Int):Prop where
 up:∀t,t<N->atK ks vs (tI (ys t))=some (.tup [Jd (ys (t+1)),.int (ps t)])
 last:atK ks vs (tI (ys N))=some .non
noncomputable def unQ:PV->List Int
 |.tup xs=>xs.map fun x=>match x with
  |.int i=>i
  |_=>0
 |_=>[]
theorem Zi4 (b:List Int):unQ (Jd b)=b:=by
 show (b.map PV.int).map (fun x=>match x with|PV.int i=>i|_=>0)=b
 rw[Zt6]
 have:b.map ((fun x=>match x with|PV.int i=>i|_=>0)∘PV.int)=b.map id:=ZtU fun _ _=>rfl
 rw[this,ZuJ]
noncomputable def ZiW (ks:List (List Key)) (vs:List PV):Nat->List Int->List Int
 |0,_=>[]
 |f+1,x=>match atK ks vs (tI x) with
  |some (.tup [y,.int p])=>p::ZiW ks vs f (unQ y)
  |_=>[]
theorem Ze7.org {ks:List (List Key)}{vs:List PV}{N:Nat}{ys:Nat->List Int}{ps:Nat->Int} (h:Ze7 ks vs N ys ps):∀(f t:Nat),t<=N->N-t<f->ZiW ks vs f (ys t)=(List.range (N-t)).map fun k=>ps (t+k)
 |0,t,_,hf=>by omega
 |f+1,t,ht,hf=>by
  by_cases c:t=N
  ·subst c
   rw[ZiW,h.last,Zu3];rfl
  ·rw[ZiW,h.up t (by omega)]
   simp only
   rw[Zi4,Ze7.org h f (t+1) (by omega) (by omega),show N-t=(N-(t+1))+1 by omega,List.range_succ_eq_map,Ztg,Zt6]
   congr 1
   exact ZtU fun k _=>by simp only[Function.comp_apply];congr 1;omega
noncomputable def Zcy (b:List Int):List Int->List Int
 |[]=>b
 |p::ps=>Zcy (Jp b p) ps
theorem Zb5 (b:List Int) (p:Int):∀ps,Zcy b (ps++[p])=Jp (Zcy b ps) p:=by
 intro ps
 induction ps generalizing b with
 |nil=>rfl
 |cons q ps ih=>exact ih (Jp b q)
structure Znu (P b:List Int) (N:Nat) (pl:List Int) (o:List Int):Prop where
 len:pl.length=N
 ok:∀t,t<N->pl.getD t 0∈P/\0<(Zcy b (pl.take t)).getD (pl.getD t 0).toNat 0
 led:Zcy b pl=o
theorem ZaY {P b:List Int}:∀(N m:Nat) {o:List Int},N<=m->o∈(wk P b N).1->∃ys ps,Ze7 ((wk P b m).2.1.map tI) (wk P b m).2.2 N ys ps/\ys 0=o/\Znu P b N (((List.range N).map ps).reverse) o
 |0,m,o,_,ho=>by
  have e:o=b:=Zti.mp ho
  subst e
  exact⟨fun _=>o,fun _=>0,⟨fun t ht=>by omega,Zi2 P o m⟩,rfl,⟨rfl,fun t ht=>by omega,rfl⟩⟩
 |N+1,m,o,hm,ho=>by
  obtain⟨y,p,a1,a2,a3,a4,a5⟩:=ZhS ho
  obtain⟨ys,ps,c,c0,pl⟩:=ZaY N m (by omega) a1
  refine⟨fun t=>match t with|0=>o|t+1=>ys t,fun t=>match t with|0=>p|t+1=>ps t,⟨fun t ht=>?_,c.last⟩,rfl, ?_⟩
  ·cases t with
   |zero=>rw[a5 m hm,<- c0]
   |succ t=>exact c.up t (by omega)
  ·have e:((List.range (N+1)).map fun t=>match t with|0=>p|t+1=>ps t).reverse=((List.range N).map ps).reverse++[p]:=by
    rw[List.range_succ_eq_map,Ztg,Zuk,Zt6]
    rfl
   rw[e]
   have hl:=pl.len
   generalize ((List.range N).map ps).reverse=L at pl hl
   refine⟨by simp[hl],fun t ht=>?_,by rw[Zb5,pl.led,a4]⟩
   by_cases c:t<N
   ·obtain⟨q1,q2⟩:=pl.ok t c
    rw[show (L++[p]).getD t 0=L.getD t 0 by rw[ZsO,Ztb (by omega),<- ZsO],Zuf (by omega)]
    exact⟨q1,q2⟩
   ·have:t=N:=by omega
    subst this
    rw[show (L++[p]).getD t 0=p by rw[ZsO,ZsY (by omega),hl,Zu3];rfl,Zuf (by omega),Ztw (by omega),pl.led]
    exact⟨a2,a3⟩
noncomputable def goN (P b o:List Int):Nat:=((List.range 1001).find? fun i=>decide (o∈(wk P b i).2.1)).getD 0
section
variable {n:Nat}{s:Int}{P b o:List Int} (F:ZeB n s P b) (ho:Rch P b o)
include F ho
theorem ZfN:goN P b o<=1000/\o∈(wk P b (goN P b o)).2.1/\(∀j,j<goN P b o->o ∉ (wk P b j).2.1)/\o∈(wk P b (goN P b o)).1/\∀j,j<=goN P b o->(wk P b j).1≠[]:=by
 have hex:o∈(wk P b (wkN P b)).2.1:=F.mem.mpr ho
 have hw:=F.end
 have h0:∃q,goN P b o=q/\q<=1000/\o∈(wk P b q).2.1/\∀j,j<q->o ∉ (wk P b j).2.1:=by
  unfold goN
  cases hf:(List.range 1001).find? fun i=>decide (o∈(wk P b i).2.1) with
  |none =>
   have:=Zuw.mp hf (wkN P b) (Ztv.mpr (by omega))
   exact absurd (decide_eq_true hex) this
  |some q =>
   obtain⟨q1,q2,q3⟩:=Zur.mp hf
   refine⟨q,rfl,by have:=Ztv.mp q2;omega,of_decide_eq_true q1,fun j hj e=>?_⟩
   have:=q3 j hj
   simp[e] at this
 obtain⟨q,e,q1,q2,q3⟩:=h0
 rw[e]
 have hlv:o∈(wk P b q).1:=by
  cases q with
  |zero=>exact q2
  |succ q =>
   rw[Ur] at q2
   rcases ZsS.mp q2 with c|c
   ·exact absurd c (q3 q (by omega))
   ·exact c
 refine⟨q1,q2,q3,hlv,fun j hj z=>?_⟩
 by_cases c:j=q
 ·rw[c] at z;rw[z] at hlv;cases hlv
 ·-- all sowings of the boards so far are there: nothing more comes
  have W:=JZ P b j
  have key:∀{x:List Int},Rch P b x->x∈(wk P b j).2.1:=fun {x} hr=>by
   induction hr with
   |refl=>exact W.bg
   |step _ hp h0 ih =>
    rcases W.cl _ ih with c|c
    ·rw[z] at c;cases c
    ·exact c _ hp h0
  exact q3 j (by omega) (key ho)
end
noncomputable abbrev DQ:=List (List Int)×List (List Int)
noncomputable def stQ (st:DQ) (y:Int×List Int):DQ:=if y.2∈st.2 then st else (st.1++[y.2],st.2++[y.2])
noncomputable def bdQ (P:List Int) (st:DQ) (x:List Int):DQ:=(Uw P x).foldl stQ st
structure Dq (R:List Int->Prop) (M0:List (List Int)) (st:DQ):Prop where
 app:st.2=M0++st.1
 nd:st.2.Nodup
 re:∀z∈st.1,R z
section
variable {R:List Int->Prop}{M0:List (List Int)}
theorem Dq.one {st:DQ} (h:Dq R M0 st) {y:Int×List Int} (hy:R y.2):Dq R M0 (stQ st y)/\(∀z∈st.2,z∈(stQ st y).2)/\y.2∈(stQ st y).2:=by
 unfold stQ
 split
 ·rename_i c
  exact⟨h,fun z hz=>hz,c⟩
 ·rename_i c
  refine⟨⟨by simp[h.app], ?_,fun z hz=>?_⟩,fun z hz=>by simp[hz],by simp⟩
  ·show (st.2++[y.2]).Nodup
   rw[Zuc]
   refine⟨h.nd,by simp,fun a ha b hb e=>?_⟩
   rw[Zti.mp hb] at e
   rw[e] at ha
   exact c ha
  ·rcases ZsS.mp hz with hz|hz
   ·exact h.re z hz
   ·rw[Zti.mp hz];exact hy
theorem Dq.fold:∀{L:List (Int×List Int)}{st:DQ},Dq R M0 st->(∀y∈L,R y.2)->Dq R M0 (L.foldl stQ st)/\(∀z∈st.2,z∈(L.foldl stQ st).2)/\∀y∈L,y.2∈(L.foldl stQ st).2
 |[],st,h,_=>⟨h,fun z hz=>hz,by simp⟩
 |y::L,st,h,hL=>by
  obtain⟨a1,a2,a3⟩:=h.one (hL y (by simp))
  obtain⟨b1,b2,b3⟩:=Dq.fold (L:=L) a1 fun z hz=>hL z (by simp[hz])
  rw[Zua]
  refine⟨b1,fun z hz=>b2 z (a2 z hz),fun z hz=>?_⟩
  rcases ZsZ.mp hz with rfl|hz
  ·exact b2 _ a3
  ·exact b3 z hz
theorem Dq.lv {P:List Int}:∀{L:List (List Int)}{st:DQ},Dq R M0 st->(∀x∈L,∀y∈Uw P x,R y.2)->Dq R M0 (L.foldl (bdQ P) st)/\(∀z∈st.2,z∈(L.foldl (bdQ P) st).2)/\∀x∈L,∀y∈Uw P x,y.2∈(L.foldl (bdQ P) st).2
 |[],st,h,_=>⟨h,fun z hz=>hz,by simp⟩
 |x::L,st,h,hL=>by
  obtain⟨a1,a2,a3⟩:=Dq.fold (L:=Uw P x) h (hL x (by simp))
  obtain⟨b1,b2,b3⟩:=Dq.lv (P:=P) (L:=L) (st:=bdQ P st x) a1 fun z hz=>hL z (by simp[hz])
  rw[Zua]
  refine⟨b1,fun z hz=>b2 z (a2 z hz),fun z hz y hy=>?_⟩
  rcases ZsZ.mp hz with rfl|hz
  ·exact b2 _ (a3 y hy)
  ·exact b3 z hz y hy
end
theorem Zip (P:List Int):∀(L:List (Int×List Int)) (st:DQ),(L.foldl stQ st).1.length<=st.1.length+L.length/\(L.foldl stQ st).2.length<=st.2.length+L.length:=by
 intro L
 induction L with
 |nil=>intro st;simp
 |cons y L ih =>
  intro st
  have:=ih (stQ st y)
  have h2:(stQ st y).1.length<=st.1.length+1/\(stQ st y).2.length<=st.2.length+1:=by unfold stQ;split<;>simp
  simp only[Zua,Ztl]
  omega
theorem Zj4 (P:List Int):∀(L:List (List Int)) (st:DQ),(L.foldl (bdQ P) st).1.length<=st.1.length+L.length*P.length/\(L.foldl (bdQ P) st).2.length<=st.2.length+L.length*P.length:=by
 intro L
 induction L with
 |nil=>intro st;simp
 |cons x L ih =>
  intro st
  have h1:=ih (bdQ P st x)
  have h2:=Zip P (Uw P x) st
  have h3:(Uw P x).length<=P.length:=by
   unfold Uw
   rw[ZsV]
   exact Zu7 _ _
  simp only[Zua,Ztl,ZuM,Nat.one_mul]
  have:bdQ P st x=(Uw P x).foldl stQ st:=rfl
  rw[this] at h1 ⊢
  omega
theorem Zjx {P b:List Int}{k:Nat}{M:List (List Int)} (nd:M.Nodup) (hm:∀z,z∈M ↔ z∈(wk P b k).2.1):V3 ((V3 (wk P b k).1).foldl (bdQ P) ([],M)).1=V3 (wk P b (k+1)).1/\((V3 (wk P b k).1).foldl (bdQ P) ([],M)).2.Nodup/\∀z,z∈((V3 (wk P b k).1).foldl (bdQ P) ([],M)).2 ↔ z∈(wk P b (k+1)).2.1:=by
 obtain⟨a1,a2,a3⟩:=Dq.lv (R:=fun z=>∃x∈(wk P b k).1,∃p∈P,0<x.getD p.toNat 0/\z=Jp x p) (M0:=M) (P:=P) (L:=V3 (wk P b k).1) (st:=([],M)) ⟨by simp,nd,by simp⟩ fun x hx y hy=>by
  obtain⟨y1,y2,y3⟩:=Uv.mp hy
  exact⟨x,(ZA _).mem_iff.mp hx,y.1,y1,y2,y3⟩
 generalize (V3 (wk P b k).1).foldl (bdQ P) ([],M)=st at a1 a2 a3
 have mem:∀z,z∈st.1 ↔ z∈(wk P b (k+1)).1:=fun z=>by
  rw[Zkc]
  have n2:=a1.nd
  rw[a1.app,Zuc] at n2
  constructor
  ·intro hz
   refine⟨a1.re z hz,fun hk=>?_⟩
   exact n2.2.2 z ((hm z).mpr hk) z hz rfl
  ·rintro⟨⟨x,hx,p,hp,h0,rfl⟩,hk⟩
   have:Jp x p∈st.2:=a3 x ((ZA _).mem_iff.mpr hx) (p,Jp x p) (Uv.mpr ⟨hp,h0,rfl⟩)
   rw[a1.app] at this
   rcases ZsS.mp this with c|c
   ·exact absurd ((hm _).mp c) hk
   ·exact c
 have n1:st.1.Nodup:=by
  have n2:=a1.nd
  rw[a1.app,Zuc] at n2
  exact n2.2.1
 refine⟨ZiB ((List.perm_ext_iff_of_nodup n1 (ZcY P b (k+1))).mpr mem),a1.nd,fun z=>?_⟩
 rw[a1.app,Ur,ZsS,ZsS,hm,mem]
theorem Zce {L:List (List Int)} (h:L.Nodup):(V3 L).Pairwise fun a b=>HT.ZD a b=true:=by
 have nd:(V3 L).Nodup:=(ZA L).nodup_iff.mpr h
 have up:=UJ L
 generalize V3 L=M at nd up
 induction M with
 |nil=>exact List.Pairwise.nil
 |cons x M ih =>
  obtain⟨n1,n2⟩:=Zuh.mp nd
  obtain⟨u1,u2⟩:=ZtJ.mp up
  refine ZtJ.mpr ⟨fun y hy=>?_,ih n2 u2⟩
  cases h1:HT.ZD x y with
  |true=>rfl
  |false=>exact absurd (HL.JP h1 (u1 y hy)) (fun e=>n1 (by rw[e];exact hy))
noncomputable def llQ (L:List (List Int)):PV:=.lst (L.map Jy)
end My
namespace My
open PySem L2
seal PE PT PA PS PSs DE DT DAA DAF DS
noncomputable def top (i:Nat):Stmt:=PySem.Challenge.pw_sowring_k22_whole_least_way.main.body.getD i (.Pass ⟨0,0,0,0⟩)
noncomputable abbrev ZnG:Stmt:=top 29
theorem Zrj:Zx ["script", "k"] ["script", "k"] (Zg ZnG):=⟨rfl,rfl,rfl,by decide +kernel,rfl,by decide +kernel,by decide +kernel⟩
theorem Zqh:Zu "_law_cell_at" ZnG ["script", "k"]:=fun _ _ _ _ _ _ us hl=>by obtain⟨_,_,rfl⟩:=us2 hl;rfl
noncomputable abbrev ZnF:Stmt:=top 31
theorem ZpN:Zx ["cell", "j", "first"] ["cell", "j"] (Zg ZnF):=⟨rfl,rfl,rfl,by decide +kernel,rfl,by decide +kernel,by decide +kernel⟩
theorem Zqg:Zu "_law_stirred" ZnF ["cell", "j"]:=fun _ _ _ _ _ _ us hl=>by obtain⟨_,_,rfl⟩:=us2 hl;rfl
noncomputable abbrev Zo9:Stmt:=top 35
theorem ZoK:Zx ["script", "cell", "pits", "seeds"] ["script"] (Zg Zo9):=⟨rfl,rfl,rfl,by decide +kernel,rfl,by decide +kernel,by decide +kernel⟩
theorem Zsw:Zu "_law_few" Zo9 ["script"]:=fun _ _ _ _ _ _ us hl=>by obtain⟨_,rfl⟩:=us1 hl;rfl
noncomputable abbrev Zok:Stmt:=top 30
theorem ZoQ:Zx ["script", "later", "most", "sums", "k", "at"] ["script", "later", "most"] (Zg Zok):=⟨rfl,rfl,rfl,by decide +kernel,rfl,by decide +kernel,by decide +kernel⟩
theorem Zsc:Zu "_law_sums" Zok ["script", "later", "most"]:=fun _ _ _ _ _ _ us hl=>by obtain⟨_,_,_,rfl⟩:=us3 hl;rfl
noncomputable abbrev Zo7:Stmt:=top 32
theorem Zod:Zx ["script", "skip", "many", "base", "mixed", "sums", "total", "row", "j"] ["script", "skip", "many", "base", "mixed"] (Zg Zo7):=⟨rfl,rfl,rfl,by decide +kernel,rfl,by decide +kernel,by decide +kernel⟩
theorem Zsu:Zu "_law_row" Zo7 ["script", "skip", "many", "base", "mixed"]:=fun _ _ _ _ _ _ us hl=>by obtain⟨_,_,_,_,_,rfl⟩:=us5 hl;rfl
noncomputable abbrev Zom:Stmt:=top 34
theorem ZpO:Zx ["places", "pits", "board", "at"] ["places", "pits"] (Zg Zom):=⟨rfl,rfl,rfl,by decide +kernel,rfl,by decide +kernel,by decide +kernel⟩
theorem Zsd:Zu "_law_laid" Zom ["places", "pits"]:=fun _ _ _ _ _ _ us hl=>by obtain⟨_,_,rfl⟩:=us2 hl;rfl
noncomputable abbrev Zo5:Stmt:=top 10
theorem Zsi:Zx ["value"] ["value"] (Zg Zo5):=⟨rfl,rfl,rfl,by decide +kernel,rfl,by decide +kernel,by decide +kernel⟩
theorem Zss:Zu "is_whole" Zo5 ["value"]:=fun _ _ _ _ _ _ us hl=>by obtain⟨_,rfl⟩:=us1 hl;rfl
noncomputable abbrev ZnA:Stmt:=top 11
theorem Zre:Zx ["value", "least"] ["value", "least"] (Zg ZnA):=⟨rfl,rfl,rfl,by decide +kernel,rfl,by decide +kernel,by decide +kernel⟩
theorem Zri:Zu "is_whole_from" ZnA ["value", "least"]:=fun _ _ _ _ _ _ us hl=>by obtain⟨_,_,rfl⟩:=us2 hl;rfl
noncomputable abbrev Zn0:Stmt:=top 12
theorem ZoJ:Zx ["values"] ["values"] (Zg Zn0):=⟨rfl,rfl,rfl,by decide +kernel,rfl,by decide +kernel,by decide +kernel⟩
theorem ZpM:Zu "is_list_from_nought" Zn0 ["values"]:=fun _ _ _ _ _ _ us hl=>by obtain⟨_,rfl⟩:=us1 hl;rfl
noncomputable abbrev ZnX:Stmt:=top 9
theorem ZrD:Zx [] [] (Zg ZnX):=⟨rfl,rfl,rfl,by decide +kernel,rfl,by decide +kernel,by decide +kernel⟩
theorem ZrO:Zu "most_seeds" ZnX []:=fun _ _ _ _ _ _ us hl=>match us,hl with | [],_=>rfl
noncomputable abbrev Zo6:Stmt:=top 13
theorem Zsj:Zx ["board"] ["board"] (Zg Zo6):=⟨rfl,rfl,rfl,by decide +kernel,rfl,by decide +kernel,by decide +kernel⟩
theorem Zst:Zu "is_board" Zo6 ["board"]:=fun _ _ _ _ _ _ us hl=>by obtain⟨_,rfl⟩:=us1 hl;rfl
noncomputable abbrev ZnL:Stmt:=top 14
theorem Zr1:Zx ["board"] ["board"] (Zg ZnL):=⟨rfl,rfl,rfl,by decide +kernel,rfl,by decide +kernel,by decide +kernel⟩
theorem Zr8:Zu "check_board" ZnL ["board"]:=fun _ _ _ _ _ _ us hl=>by obtain⟨_,rfl⟩:=us1 hl;rfl
noncomputable abbrev ZnM:Stmt:=top 15
theorem Zr2:Zx ["board", "other"] ["board", "other"] (Zg ZnM):=⟨rfl,rfl,rfl,by decide +kernel,rfl,by decide +kernel,by decide +kernel⟩
theorem Zr9:Zu "check_alike" ZnM ["board", "other"]:=fun _ _ _ _ _ _ us hl=>by obtain⟨_,_,rfl⟩:=us2 hl;rfl
noncomputable abbrev ZnE:Stmt:=top 17
theorem ZoB:Zx ["pits", "seeds", "count", "k"] ["pits", "seeds"] (Zg ZnE):=⟨rfl,rfl,rfl,by decide +kernel,rfl,by decide +kernel,by decide +kernel⟩
theorem Zru:Zu "count_boards" ZnE ["pits", "seeds"]:=fun _ _ _ _ _ _ us hl=>by obtain⟨_,_,rfl⟩:=us2 hl;rfl
noncomputable abbrev Zn5:Stmt:=top 23
theorem Zqs:Zx ["board"] ["board"] (Zg Zn5):=⟨rfl,rfl,rfl,by decide +kernel,rfl,by decide +kernel,by decide +kernel⟩
theorem Zq7:Zu "check_few_boards" Zn5 ["board"]:=fun _ _ _ _ _ _ us hl=>by obtain⟨_,rfl⟩:=us1 hl;rfl
noncomputable abbrev ZoS:Stmt:=top 26
theorem Zqn:Zx ["goal", "came_from", "plan", "origin"] ["goal", "came_from"] (Zg ZoS):=⟨rfl,rfl,rfl,by decide +kernel,rfl,by decide +kernel,by decide +kernel⟩
theorem Zs6:Zu "plan_to" ZoS ["goal", "came_from"]:=fun _ _ _ _ _ _ us hl=>by obtain⟨_,_,rfl⟩:=us2 hl;rfl
noncomputable abbrev ZoR:Stmt:=top 19
theorem Zo3:Zx ["board", "pit", "pits", "rounds", "over", "other", "last", "step"] ["board", "pit"] (Zg ZoR):=⟨rfl,rfl,rfl,by decide +kernel,rfl,by decide +kernel,by decide +kernel⟩
theorem Zs5:Zu "sow_pit" ZoR ["board", "pit"]:=fun _ _ _ _ _ _ us hl=>by obtain⟨_,_,rfl⟩:=us2 hl;rfl
noncomputable abbrev ZnV:Stmt:=top 25
theorem Zp1:Zx ["board", "pits"] ["board", "pits"] (Zg ZnV):=⟨rfl,rfl,rfl,by decide +kernel,rfl,by decide +kernel,by decide +kernel⟩
theorem ZrM:Zu "sowings_of" ZnV ["board", "pits"]:=fun _ _ _ _ _ _ us hl=>by obtain⟨_,_,rfl⟩:=us2 hl;rfl
noncomputable abbrev ZnW:Stmt:=top 24
theorem ZoX:Zx ["level", "pits", "came_from", "found", "board", "step"] ["level", "pits", "came_from"] (Zg ZnW):=⟨rfl,rfl,rfl,by decide +kernel,rfl,by decide +kernel,by decide +kernel⟩
theorem ZrN:Zu "next_level" ZnW ["level", "pits", "came_from"]:=fun _ _ _ _ _ _ us hl=>by obtain⟨_,_,_,rfl⟩:=us3 hl;rfl
noncomputable abbrev Zn9:Stmt:=top 27
theorem ZpK:Zx ["boards"] ["boards"] (Zg Zn9):=⟨rfl,rfl,rfl,by decide +kernel,rfl,by decide +kernel,by decide +kernel⟩
theorem Zrh:Zu "rising_boards" Zn9 ["boards"]:=fun _ _ _ _ _ _ us hl=>by obtain⟨_,rfl⟩:=us1 hl;rfl
noncomputable abbrev Zoj:Stmt:=top 22
theorem Zoi:Zx ["board", "other", "pits", "goal", "levels", "came_from"] ["board", "other"] (Zg Zoj):=⟨rfl,rfl,rfl,by decide +kernel,rfl,by decide +kernel,by decide +kernel⟩
theorem Zsb:Zu "least_way" Zoj ["board", "other"]:=fun _ _ _ _ _ _ us hl=>by obtain⟨_,_,rfl⟩:=us2 hl;rfl
noncomputable abbrev ZnY:Stmt:=top 40
theorem Zp3:Zx ["levels", "kept", "k", "j"] ["levels", "kept"] (Zg ZnY):=⟨rfl,rfl,rfl,by decide +kernel,rfl,by decide +kernel,by decide +kernel⟩
theorem ZrP:Zu "_law_apart" ZnY ["levels", "kept"]:=fun _ _ _ _ _ _ us hl=>by obtain⟨_,_,rfl⟩:=us2 hl;rfl
noncomputable abbrev Zol:Stmt:=top 33
theorem Zo4:Zx ["board", "pit", "pits", "seeds", "made", "k", "at"] ["board", "pit"] (Zg Zol):=⟨rfl,rfl,rfl,by decide +kernel,rfl,by decide +kernel,by decide +kernel⟩
theorem Zrd:Zu "_law_sown" Zol ["board", "pit"]:=fun _ _ _ _ _ _ us hl=>by obtain⟨_,_,rfl⟩:=us2 hl;rfl
noncomputable abbrev Zo8:Stmt:=top 39
theorem Zp2:Zx ["board", "plan", "here", "deed"] ["board", "plan"] (Zg Zo8):=⟨rfl,rfl,rfl,by decide +kernel,rfl,by decide +kernel,by decide +kernel⟩
theorem Zsv:Zu "_law_led" Zo8 ["board", "plan"]:=fun _ _ _ _ _ _ us hl=>by obtain⟨_,_,rfl⟩:=us2 hl;rfl
noncomputable abbrev ZnN:Stmt:=top 36
theorem ZoO:Zx ["level", "pits", "seeds", "board", "number", "k"] ["level", "pits", "seeds"] (Zg ZnN):=⟨rfl,rfl,rfl,by decide +kernel,rfl,by decide +kernel,by decide +kernel⟩
theorem ZrA:Zu "_law_boards" ZnN ["level", "pits", "seeds"]:=fun _ _ _ _ _ _ us hl=>by obtain⟨_,_,_,rfl⟩:=us3 hl;rfl
noncomputable abbrev ZnO:Stmt:=top 37
theorem Zpi:Zx ["board"] ["board"] (Zg ZnO):=⟨rfl,rfl,rfl,by decide +kernel,rfl,by decide +kernel,by decide +kernel⟩
theorem ZrB:Zu "_law_behind" ZnO ["board"]:=fun _ _ _ _ _ _ us hl=>by obtain⟨_,rfl⟩:=us1 hl;rfl
noncomputable abbrev Zn2:Stmt:=top 38
theorem Zn7:Zx ["levels", "board", "met", "k", "due", "one", "later"] ["levels", "board"] (Zg Zn2):=⟨rfl,rfl,rfl,by decide +kernel,rfl,by decide +kernel,by decide +kernel⟩
theorem Zqp:Zu "_law_levels_right" Zn2 ["levels", "board"]:=fun _ _ _ _ _ _ us hl=>by obtain⟨_,_,rfl⟩:=us2 hl;rfl
noncomputable abbrev ZrT:Stmt:=top 41
theorem Zph:Zx ["script", "pits", "seeds", "row", "board", "other", "handed", "told", "plan", "levels", "level", "kept"] ["script"] (Zg ZrT):=⟨rfl,rfl,rfl,by decide +kernel,rfl,by decide +kernel,by decide +kernel⟩
theorem ZsM:Zu "law" ZrT ["script"]:=fun _ _ _ _ _ _ us hl=>by obtain⟨_,rfl⟩:=us1 hl;rfl
noncomputable abbrev XN:List Str:=["SowError", "BadBoard", "Unlike", "TooMany"]
noncomputable abbrev ZcR:List (Str×Str×Bool):=[("SowError", "SowError",true),("BadBoard", "SowError",true),("Unlike", "SowError",true),("TooMany", "SowError",true)]
noncomputable abbrev ZcS:List (Str×Str×Bool):=[("SowError", "BadBoard",false),("BadBoard", "BadBoard",true),("Unlike", "BadBoard",false),("TooMany", "BadBoard",false)]
noncomputable abbrev Zg4:List (Str×Str×Bool):=[("SowError", "Unlike",false),("BadBoard", "Unlike",false),("Unlike", "Unlike",true),("TooMany", "Unlike",false)]
noncomputable abbrev Ze6:List (Str×Str×Bool):=[("SowError", "TooMany",false),("BadBoard", "TooMany",false),("Unlike", "TooMany",false),("TooMany", "TooMany",true)]
noncomputable abbrev XS:List (Str×Str×Bool):=ZcR++ZcS++Zg4++Ze6
noncomputable abbrev XR:List Str:=["SowError", "BadBoard", "Unlike", "TooMany"]
structure Txt (K:PySem.W.Frag) (mg:Str->Option Value):Prop where
 Zqr:Dfn K mg "_law_cell_at" ZnG
 Zqq:Dfn K mg "_law_stirred" ZnF
 Zs4:Dfn K mg "_law_few" Zo9
 Zsq:Dfn K mg "_law_sums" Zok
 Zs2:Dfn K mg "_law_row" Zo7
 Zsr:Dfn K mg "_law_laid" Zom
 Zs0:Dfn K mg "is_whole" Zo5
 Zrs:Dfn K mg "is_whole_from" ZnA
 Zqd:Dfn K mg "is_list_from_nought" Zn0
 ZrZ:Dfn K mg "most_seeds" ZnX
 Zs1:Dfn K mg "is_board" Zo6
 ZrI:Dfn K mg "check_board" ZnL
 ZrJ:Dfn K mg "check_alike" ZnM
 Zr7:Dfn K mg "count_boards" ZnE
 ZqF:Dfn K mg "check_few_boards" Zn5
 ZsD:Dfn K mg "plan_to" ZoS
 ZsC:Dfn K mg "sow_pit" ZoR
 ZrX:Dfn K mg "sowings_of" ZnV
 ZrY:Dfn K mg "next_level" ZnW
 Zrr:Dfn K mg "rising_boards" Zn9
 Zsp:Dfn K mg "least_way" Zoj
 Zsa:Dfn K mg "_law_apart" ZnY
 Zrt:Dfn K mg "_law_sown" Zol
 Zs3:Dfn K mg "_law_led" Zo8
 ZrK:Dfn K mg "_law_boards" ZnN
 ZrL:Dfn K mg "_law_behind" ZnO
 Zq6:Dfn K mg "_law_levels_right" Zn2
 ZsN:Dfn K mg "law" ZrT
 c_FEWEST_PITS:∃t,mg "FEWEST_PITS"=some (.int 2 t)
 c_MOST_BOARDS:∃t,mg "MOST_BOARDS"=some (.int 1000 t)
 c_MOST_PITS:∃t,mg "MOST_PITS"=some (.int 24 t)
 z_all:mg "all"=none
 z_bool:mg "bool"=none
 z_int:mg "int"=none
 z_isinstance:mg "isinstance"=none
 z_len:mg "len"=none
 z_list:mg "list"=none
 z_max:mg "max"=none
 z_min:mg "min"=none
 z_range:mg "range"=none
 z_sorted:mg "sorted"=none
 z_sum:mg "sum"=none
 z_tuple:mg "tuple"=none
 x_tab:ZmK K XN XS=true
 x_exc:Ziz K XR=true
 x_mg:∀n C,ZjN K n C->mg n=some (.ref C)
section
variable {P:Program}{w:World}{K:W.Frag}{mg:Str->Option Value}{base:Heap}
theorem Zik:PyData.canLay0 (.str "sow")=true:=by rw[PyData.canLay0];decide +kernel
theorem Zer {g:Bool->Bool}:Zam g (.str "sow") (.str "sow")=.ok (.bl (g true)):=ZiT Zik Zik
set_option hygiene false
local macro_rules | `(tactic| walk_at "pd")=>`(tactic| try simp -implicitDefEqProofs (disch:=first|omega|(simp only[ZsV,Zt7,ZtH,List.length_replicate,Ztl,Zuu,Ztk,ZtL,Zu1,Jl];omega)|decide) only[Zjn,Zjo,List.set_cons_zero,ZuR,Zue,ZtT,ZeZ,ZeY,List.getElem?_cons_zero,Rr.bind_ok,Rr.bind_exc,Rr.bind_bad,Rr.thenS_ok,RS.seq_next,RS.seq_ret,RS.out_next,RS.out_ret,RS.out_exc,
 ZiV,ZiP,ZkC,ZkD,ZkM,ZkO,Zjp,Zhz,Zh0,ZlH,ZjH,ZkG,ZjI,ZkJ,ZkI,ZkH,Zha,ZiQ,ZkF,ZkE,Zhu,Zhv,Zht,Zhs,ZiU,Zhc,Zfq,ZiR,Zmx,Zmy,Zfl,Ztl,Zuu,Bool.not_true,Bool.not_false,Bool.false_eq_true,if_true,if_false,Nat.reduceAdd,Nat.reduceSub,id,Ztg,ZuQ,Int.reduceToNat,Zen,ZaK,Zmz,ZkT,ZkS,ZmF,Zhy,Zhl,Nat.reduceLeDiff,ZsU,Int.reduceLT,Int.reduceLE,Int.reduceEq,decide_true,decide_false,
 Qq,QF,Zb1,Zfv,ZgY,Zdx,ZgV,ZfA,Zal,QI,ZlB,ZhI,Zhh,Zhg,Zhf,beq_self_eq_true,Bool.and_true,Bool.true_and,Bool.and_false,Bool.false_and,ZkB,Zer])
set_option hygiene true
noncomputable def ZnC:Pm:=⟨List Int×Int,fun a=>[.lst (a.1.map PV.int),.int a.2],fun a=>0<=a.2,fun a=>.ok (.int (JY a.1 a.2.toNat))⟩
theorem ZpY (T:Txt K mg) {f:Addr}{fd:FuncData} (F:Fun K "_law_cell_at" "_law_cell_at" ZnG f fd):JT P w K mg base CX0 1 f fd ["script", "k"] (spF K 2 .P W0 ZnC.fn):=by
 refine F.okP Zrj rfl rfl (fun cdv A outer s H E hr=>?_)
 have hu:=hr.units
 refine⟨_,_,⟨[],[],[],.P⟩,rfl,(Zd (J5 (Z9 Zeo (pv 1) (Zo (Z3 (K:=K)) rfl T.z_len Jk (Za (pv 0) Ze)) (ZK _)) (Zj (Z0 (Z6 Jg (ZI (Zq (K:=K)) (pv 0) (pv 1) (fun _ _=>rfl)) (Z6 Zb2 Zl Zl)))) ZB)
   (Zj (Z0 Zl))),
   (Zm (Γm:=[.S,.S]) (JG (Z7 (DE.toA (Zgf (Zc (i:=1) (m:=.S) rfl (by decide)) (DE.toA (Jj (Zb (Zc (i:=0) (m:=.S) rfl (by decide)) Zf))))))
   (Z8 (Ji (Z4 (te:=tC .non) (Zc (i:=0) (m:=.S) rfl (by decide)) (Zc (i:=1) (m:=.S) rfl (by decide))) (DE.toA (ZbK (DE.toA Zk) (DE.toA Zk)))))
   ZH)
   (Z8 Zk)), ?_⟩
 refine Pm.ref ZnC (g:=fun xs=>_) ?_
 rintro⟨ns,k⟩ (hk:0<=k)
 simp only[ZnC]
 walk_at "pd"
 unfold JY
 by_cases h:k<ns.length
 ·rw[decide_eq_true h]
  walk_at "pd"
 ·rw[decide_eq_false h]
  walk_at "pd"
  rw[Qw (by omega)];rfl
theorem Zoh {ns:List Int}{k:Int} (h:0<=k):ZnC.fn [.lst (ns.map PV.int),.int k]=.ok (.int (JY ns k.toNat)):=Pm.fn_eq ZnC (ns,k) h fun(a:List Int×Int) e=>by (simp only[ZnC,List.cons.injEq,PV.lst.injEq,PV.int.injEq,PV.str.injEq,PV.bl.injEq,PV.tup.injEq,Jb,and_true] at e ⊢;first|(simp only[e];done)|(subst e;rfl)|(rw[e]))
noncomputable def ZnB:Pm:=⟨Int×Int,fun a=>[.int a.1,.int a.2],fun a=>0<=a.2/\a.2<=1000000,fun a=>.ok (.int (stir a.1 a.2))⟩
theorem ZpX (T:Txt K mg) {f:Addr}{fd:FuncData} (F:Fun K "_law_stirred" "_law_stirred" ZnF f fd):JT P w K mg base CX0 1 f fd ["cell", "j"] (spF K 2 .P W0 ZnB.fn):=by
 refine F.okP ZpN rfl rfl (fun cdv A outer s H E hr=>?_)
 have hu:=hr.units
 refine⟨_,_,⟨[],[],[],.P⟩,rfl,(Zd (Z5 (i:=2) ZpN.nd rfl (by first|exact Or.inl rfl|exact Or.inr rfl) (Z6 Jg (Z6 UP (Z6 J6 (Z6 J6 (Z6 Jg (pv 0) Zl) (Z6 UP Zl (pv 1))) Zl) Zl) Zl))
   (Zj (Z0 (Z6 JW (Z6 Jg (Z6 UP (pv 2) (pv 2)) Zl) Zl)))),
   (Zm (Γm:=[.S,.S,.P]) (ZO (i:=2) (Ji (DE.toA (Za0 (DE.toA (JA (DE.toA (JA (DE.toA (Ji (Zc (i:=0) (m:=.S) rfl (by decide)) (DE.toA Zk))) (DE.toA (Za0 (DE.toA Zk) (Zc (i:=1) (m:=.S) rfl (by decide)))))) (DE.toA Zk))) (DE.toA Zk))) (DE.toA Zk)) (by decide))
   (Z8 (Qb (DE.toA (Ji (DE.toA (Za0 (DE.toA (Zh (i:=2) rfl)) (DE.toA (Zh (i:=2) rfl)))) (DE.toA Zk))) (DE.toA Zk)))), ?_⟩
 refine Pm.ref ZnB (g:=fun xs=>_) ?_
 rintro⟨c,j⟩ ⟨h0,h1⟩
 simp only at h0 h1
 simp only[ZnB]
 walk_at "pd"
 rfl
theorem ZnU {c j:Int} (h:0<=j/\j<=1000000):ZnB.fn [.int c,.int j]=.ok (.int (stir c j)):=Pm.fn_eq ZnB (c,j) h fun(a:Int×Int) e=>by (simp only[ZnB,List.cons.injEq,PV.lst.injEq,PV.int.injEq,PV.str.injEq,PV.bl.injEq,PV.tup.injEq,Jb,and_true] at e ⊢;first|(simp only[e];done)|(subst e;rfl)|(rw[e]))
noncomputable def fwP (c:Int):Int:=if c%4=1 then 6+c/4%5 else 2+c/4%4
noncomputable def fwS (c:Int):Int:=if c%4=1 then stir c 5%4 else stir c 5%([0,0,41,11,7,5]:List Int).getD (2+c/4%4).toNat 0
noncomputable def Zop:Pm:=⟨List Int,fun a=>[.lst (a.map PV.int)],fun _=>True,fun a=>.ok (.tup [.int (fwP (JY a 0)),.int (fwS (JY a 0))])⟩
theorem Zso (T:Txt K mg) {f:Addr}{fd:FuncData} (F:Fun K "_law_few" "_law_few" Zo9 f fd):JT P w K mg base CX0 2 f fd ["script"] (spF K 1 .P W0 Zop.fn):=by
 have Zpv:=UY (P:=P) (w:=w) (base:=base) T.Zqr Zqh (fun F=>ZpY T F)
 have ZoP:=UY (P:=P) (w:=w) (base:=base) T.Zqq Zqg (fun F=>ZpX T F)
 refine F.okP ZoK rfl rfl (fun cdv A outer s H E hr=>?_)
 have hu:=hr.units
 refine⟨_,_,⟨[],[],[],.P⟩,rfl,(Zd (Z5 (i:=1) ZoK.nd rfl (by first|exact Or.inl rfl|exact Or.inr rfl) (Zy Zpv (hr.mono (by decide)) rfl (Za (pv 0) (Za Zl Ze))))
   (Zd (Z5 (i:=2) ZoK.nd rfl (by first|exact Or.inl rfl|exact Or.inr rfl) (Z6 J6 Zl (Z6 Jg (Z6 JW (pv 1) Zl) Zl)))
   (Zd (Z5 (i:=3) ZoK.nd rfl (by first|exact Or.inl rfl|exact Or.inr rfl) (Z6 Jg (Zy ZoP (hr.mono (by decide)) rfl (Za (pv 1) (Za Zl Ze))) (ZI (Zq (K:=K)) (JV (Za Zl (Za Zl (Za Zl (Za Zl (Za Zl (Za Zl Ze))))))) (pv 2) (fun _ _=>rfl))))
   (Zd (J5 (Z9 (Zao (K:=K) hu) (Z6 Jg (pv 1) Zl) Zl (ZK _)) (Zd (Z5 (i:=2) ZoK.nd rfl (by first|exact Or.inl rfl|exact Or.inr rfl) (Z6 J6 Zl (Z6 Jg (Z6 JW (pv 1) Zl) Zl)))
   (Zj (Z5 (i:=3) ZoK.nd rfl (by first|exact Or.inl rfl|exact Or.inr rfl) (Z6 Jg (Zy ZoP (hr.mono (by decide)) rfl (Za (pv 1) (Za Zl Ze))) Zl)))) ZB)
   (Zj (Z0 (Uy (Za (pv 2) (Za (pv 3) Ze))))))))),
   (Zm (Γm:=[.S,.P,.U,.U]) (ZO (i:=1) (Ze9 (Zi (Zi Zv)) (Zb (Zc (i:=0) (m:=.S) rfl (by decide)) (Zb (DE.toA Zk) Zf))) (by decide))
   (Zm (Γm:=[.S,.P,.P,.U]) (ZO (i:=2) (JA (DE.toA Zk) (DE.toA (Ji (DE.toA (Qb (DE.toA (Zh (i:=1) rfl)) (DE.toA Zk))) (DE.toA Zk)))) (by decide))
   (Zm (Γm:=[.S,.P,.P,.P]) (ZO (i:=3) (Ji (DE.toA (Ze9 (Zi (Zi Zv)) (Zb (DE.toA (Zh (i:=1) rfl)) (Zb (DE.toA Zk) Zf)))) (Z4 (te:=tC .non) (DE.toA (Vz (ZM (DE.PF Zk) (ZM (DE.PF Zk) (ZM (DE.PF Zk) (ZM (DE.PF Zk) (ZM (DE.PF Zk) (ZM (DE.PF Zk) J0)))))))) (DE.toA (Zh (i:=2) rfl)))) (by decide))
   (Zm (Γm:=[.S,.P,.P,.P]) (JG (Z7 (DE.toA (Js (g:=id) (DE.toA (Ji (DE.toA (Zh (i:=1) rfl)) (DE.toA Zk))) (DE.toA Zk))))
   (Zm (Γm:=[.S,.P,.P,.P]) (ZO (i:=2) (JA (DE.toA Zk) (DE.toA (Ji (DE.toA (Qb (DE.toA (Zh (i:=1) rfl)) (DE.toA Zk))) (DE.toA Zk)))) (by decide))
   (ZO (i:=3) (Ji (DE.toA (Ze9 (Zi (Zi Zv)) (Zb (DE.toA (Zh (i:=1) rfl)) (Zb (DE.toA Zk) Zf)))) (DE.toA Zk)) (by decide)))
   ZH)
   (Z8 (DE.grd (QS (Zb (DE.toA (Zh (i:=2) rfl)) (Zb (DE.toA (Zh (i:=3) rfl)) Zf))))))))), ?_⟩
 refine Pm.ref Zop (g:=fun xs=>_) ?_
 rintro(ns:List Int) -
 simp only[Zop]
 walk_at "pd"
 rw[Zoh (by omega)]
 walk_at "pd"
 generalize JY ns 0=c
 rw[ZnU ⟨by omega,by omega⟩]
 have hix:pIx (.lst [.int 0,.int 0,.int 41,.int 11,.int 7,.int 5]) (.int (2+c/4%4))=.ok (.int (([0,0,41,11,7,5]:List Int).getD (2+c/4%4).toNat 0)):=Qq (ns:=[0,0,41,11,7,5]) (by omega) (by simp only[Ztl,Zuu];omega)
 rw[hix]
 have hpos:0<([0,0,41,11,7,5]:List Int).getD (2+c/4%4).toNat 0:=by
  have:(2+c/4%4).toNat=2\/(2+c/4%4).toNat=3\/(2+c/4%4).toNat=4\/(2+c/4%4).toNat=5:=by omega
  rcases this with z|z|z|z<;>rw[z]<;>decide
 walk_at "pd"
 unfold fwP fwS
 by_cases e:c%4=1
 ·rw[decide_eq_true e,if_pos e,if_pos e]
  walk_at "pd"
  rw[ZnU ⟨by omega,by omega⟩]
  walk_at "pd"
 ·rw[decide_eq_false e,if_neg e,if_neg e]
  walk_at "pd"
theorem Zp0 {ns:List Int}:Zop.fn [.lst (ns.map PV.int)]=.ok (.tup [.int (fwP (JY ns 0)),.int (fwS (JY ns 0))]):=Pm.fn_eq Zop ns trivial fun(a:List Int) e=>by (simp only[Zop,List.cons.injEq,PV.lst.injEq,PV.int.injEq,PV.str.injEq,PV.bl.injEq,PV.tup.injEq,Jb,and_true] at e ⊢;first|(simp only[e];done)|(subst e;rfl)|(rw[e]))
noncomputable def Zoa:Pm:=⟨List Int×Int×Int,fun a=>[.lst (a.1.map PV.int),.int a.2.1,.int a.2.2],fun a=>a.1.length<=1000/\(0<=a.2.1/\a.2.1<=1000)/\0<a.2.2/\a.2.2<=1000,fun a=>.ok (.lst ((Zcd a.1 a.2.1.toNat a.2.2.toNat).map PV.int))⟩
theorem ZrV (T:Txt K mg) {f:Addr}{fd:FuncData} (F:Fun K "_law_sums" "_law_sums" Zok f fd):JT P w K mg base CX0 1 f fd ["script", "later", "most"] (spF K 3 .F W0 Zoa.fn):=by
 refine F.okP ZoQ rfl rfl (fun cdv A outer s H E hr=>?_)
 have hu:=hr.units
 refine⟨_,_,⟨[],[],[],.F⟩,rfl,(Zd (QC (i:=3) ZoQ.nd rfl (Jf rfl T.z_range (Za (pv 2) Ze)) (VD ZoQ.nd) (fun _ _ _ _=>Zak) (fun _ _ _ _=>Zl) hv1 rfl)
   (Zd (Jt PassesOwn.never rfl (Zbt rfl T.z_range (Za (pv 1) (Za (Zo (Z3 (K:=K)) rfl T.z_len Jk (Za (pv 0) Ze)) Ze))) (ZN (i:=4) ZoQ.nd rfl (by first|exact Or.inl rfl|exact Or.inr rfl)) (Zd (Z5 (i:=5) ZoQ.nd rfl (by first|exact Or.inl rfl|exact Or.inr rfl) (Z6 Jg (Z6 Zfw (pv 4) (pv 1)) (pv 2)))
   (Zd (UW (Z6 J6 (Z6 UP (ZI (Zq (K:=K)) (pv 3) (pv 5) (fun _ _=>rfl)) Zl) (Z6 Jg (ZI (Zq (K:=K)) (pv 0) (pv 4) (fun _ _=>rfl)) (Z6 Zb2 Zl Zl))) (Zai (pv 3) (pv 5) Vq))
   (Zj (UW (Z6 Jg (ZI (Zq (K:=K)) (pv 3) (pv 5) (fun _ _=>rfl)) (Z6 Zb2 Zl Zl)) (Zai (pv 3) (pv 5) Vq))))))
   (Zj (Z0 (pv 3))))),
   (Zm (Γm:=[.S,.S,.S,.O,.U,.U]) (Uk (i:=3) (UA (k:=1) (DI.c (JQ (Zb (Zc (i:=2) (m:=.S) rfl (by decide)) Zf))) Zl9 ZbJ (DE.PF Zk)) (by decide))
   (Zm (Γm:=[.S,.S,.S,.O,.U,.U]) (J9 (Γl:=[.S,.S,.S,.O,.U,.U]) (ZfX (Zb (Zc (i:=1) (m:=.S) rfl (by decide)) (Zb (DE.toA (Jj (Zb (Zc (i:=0) (m:=.S) rfl (by decide)) Zf))) Zf))) rfl (ZdL (i:=4) (by decide))
   (DS.out (Y:=⟨[.S,.S,.S,.O,.P,.P],[.S,.S,.S,.O,.U,.U],[.S,.S,.S,.O,.U,.U],.F⟩) (Y':=⟨[.S,.S,.S,.O,.U,.U],[.S,.S,.S,.O,.U,.U],[.S,.S,.S,.O,.U,.U],.F⟩) (Zm (Γm:=[.S,.S,.S,.O,.P,.P]) (ZO (i:=5) (Ji (DE.toA (Zgb (DE.toA (Zh (i:=4) rfl)) (Zc (i:=1) (m:=.S) rfl (by decide)))) (Zc (i:=2) (m:=.S) rfl (by decide))) (by decide))
   (Zm (Γm:=[.S,.S,.S,.O,.P,.P]) (Vi (i:=3) rfl (JA (DE.toA (Za0 (Z4 (te:=tC .non) (Zc (i:=3) (m:=.O) rfl (by decide)) (DE.toA (Zh (i:=5) rfl))) (DE.toA Zk))) (DE.toA (Ji (Z4 (te:=tC .non) (Zc (i:=0) (m:=.S) rfl (by decide)) (DE.toA (Zh (i:=4) rfl))) (DE.toA (ZbK (DE.toA Zk) (DE.toA Zk)))))) (DE.toA (Zh (i:=5) rfl)))
   (Vi (i:=3) rfl (Ji (Z4 (te:=tC .non) (Zc (i:=3) (m:=.O) rfl (by decide)) (DE.toA (Zh (i:=5) rfl))) (DE.toA (ZbK (DE.toA Zk) (DE.toA Zk)))) (DE.toA (Zh (i:=5) rfl))))) rfl rfl rfl rfl))
   (Jm (Vx (i:=3) rfl)))), ?_⟩
 refine Pm.ref Zoa (g:=fun xs=>_) ?_
 rintro⟨ns,l,m⟩ ⟨hn,hl,h0,h1⟩
 simp only at hn hl h0 h1
 simp only[Zoa]
 walk_at "pd"
 rw[ZaR (p:=fun _=>true) (g:=fun _=>.int 0) (fun i hi=>rfl)]
 rw[show ((List.range m.toNat).filter fun _=>true).map (fun _=>PV.int 0)=(Uu ns l.toNat m.toNat 0).map PV.int by
  rw[show ((List.range m.toNat).filter fun _=>true)=List.range m.toNat from Zuq.mpr fun _ _=>rfl,Uu,List.map_const',Zu1,List.map_replicate]]
 walk_at "pd"
 generalize hw:Uo _ _ _=W
 obtain⟨ρ',rfl,v,u,rfl⟩:=ZF hw (fun i ρ=>∃v u,ρ=[.lst (ns.map PV.int),.int l,.int m,.lst ((Uu ns l.toNat m.toNat i).map PV.int),v,u]) ⟨_,_,rfl⟩ (by
  rintro i x ρ hx ⟨v,u,rfl⟩
  obtain⟨hi,rfl⟩:=JF hx
  have hlen:(Uu ns l.toNat m.toNat i).length=m.toNat:=VB _ _ _ _
  have m0:=Zts (l+(i:Int)-l) (show m≠0 by omega)
  have m1:=Ztn (l+(i:Int)-l) h0
  have e:((l+(i:Int)-l)%m).toNat=i%m.toNat:=by
   have:((i%m.toNat:Nat):Int)=(l+(i:Int)-l)%m:=by rw[Int.natCast_emod,Zt0 (by omega),show l+(i:Int)-l=i by omega]
   omega
  have hb:=Zjs (P:=fun x=>0<=x/\x<10^62) (Zdg ns l.toNat m.toNat i) (by decide) ((l+(i:Int)-l)%m).toNat
  walk_at "pd"
  refine Vg ⟨.int (l+(i:Int)),.int ((l+(i:Int)-l)%m), ?_⟩
  rw[List.set_set,L2.getD_set (by omega),if_pos rfl,Uu,e,show (l+(i:Int)).toNat=l.toNat+i by omega])
 walk_at "pd"
 rw[Jl]
 unfold Zcd
 rw[show ((ns.length:Int)-l).toNat=ns.length-l.toNat by omega]
theorem Zpe {ns:List Int}{l m:Int} (h:ns.length<=1000/\(0<=l/\l<=1000)/\0<m/\m<=1000):Zoa.fn [.lst (ns.map PV.int),.int l,.int m]=.ok (.lst ((Zcd ns l.toNat m.toNat).map PV.int)):=Pm.fn_eq Zoa (ns,l,m) h fun(a:List Int×Int×Int) e=>by (simp only[Zoa,List.cons.injEq,PV.lst.injEq,PV.int.injEq,PV.str.injEq,PV.bl.injEq,PV.tup.injEq,Jb,and_true] at e ⊢;first|(simp only[e];done)|(subst e;rfl)|(rw[e]))
noncomputable def Zon:Pm:=⟨List Int×Int×Int×Int×Bool,fun a=>[.lst (a.1.map PV.int),.int a.2.1,.int a.2.2.1,.int a.2.2.2.1,.bl a.2.2.2.2],fun a=>a.1.length<=1000/\(0<=a.2.1/\a.2.1<=1000)/\(0<=a.2.2.1/\a.2.2.1<=1000)/\0<a.2.2.2.1/\a.2.2.2.1<=1000000,fun a=>.ok (.lst ((ZgM a.1 a.2.1 a.2.2.1 a.2.2.2.1 a.2.2.2.2).map PV.int))⟩
theorem Zsm (T:Txt K mg) {f:Addr}{fd:FuncData} (F:Fun K "_law_row" "_law_row" Zo7 f fd):JT P w K mg base CX0 2 f fd ["script", "skip", "many", "base", "mixed"] (spF K 5 .F W0 Zon.fn):=by
 have Zsx:=UY (P:=P) (w:=w) (base:=base) T.Zsq Zsc (fun F=>ZrV T F)
 have ZoP:=UY (P:=P) (w:=w) (base:=base) T.Zqq Zqg (fun F=>ZpX T F)
 refine F.okP Zod rfl rfl (fun cdv A outer s H E hr=>?_)
 have hu:=hr.units
 refine⟨_,_,⟨[],[],[],.F⟩,rfl,(Zd (J5 (JE (pv 4)) (Zd (Z5 (i:=5) Zod.nd rfl (by first|exact Or.inl rfl|exact Or.inr rfl) (Zy Zsx (hr.mono (by decide)) rfl (Za (pv 0) (Za (pv 1) (Za (Zo (Zgu rfl) rfl T.z_max ZlE (Za Zl (Za (pv 2) Ze))) Ze)))))
   (Zj (Z0 (VM (Jf rfl T.z_range (Za (pv 2) Ze)) (VD Zod.nd) (fun _ _ _ _=>Zak) (fun _ _ _ _=>(Z6 Jg (Zy ZoP (hr.mono (by decide)) rfl (Za (ZI (Zq (K:=K)) (pv 5) (pv 9) (fun _ _=>rfl)) (Za (pv 9) Ze))) (pv 3))) hv1 Zod.nd rfl)))) ZB)
   (Zd (Z5 (i:=6) Zod.nd rfl (by first|exact Or.inl rfl|exact Or.inr rfl) (Zo (Vk (K:=K) rfl) rfl T.z_sum Za2 (Za (Qo (ZT (K:=K) (ZaG (ZaC (K:=K)) (pv 0) (Zck (pv 1)) Zcl)) (fun _ _ _ _=>(Z6 Jg (pv 9) (Z6 Zb2 Zl Zl))) Zod.nd rfl) Ze)))
   (Zd (Z5 (i:=7) Zod.nd rfl (by first|exact Or.inl rfl|exact Or.inr rfl) (JV Ze))
   (Zd (Jt PassesOwn.never rfl (Jf rfl T.z_range (Za (pv 2) Ze)) (ZN (i:=8) Zod.nd rfl (by first|exact Or.inl rfl|exact Or.inr rfl)) (Zd (Jq (ZaI PySem.F.plainAttrs_list PySem.F.slot_list_append PySem.F.type_list_append Jr (pv 7) (Za (Z6 Jg (pv 6) (pv 3)) Ze)))
   (Zj (Z5 (i:=6) Zod.nd rfl (by first|exact Or.inl rfl|exact Or.inr rfl) (Z6 JW (pv 6) (pv 3))))))
   (Zj (Z0 (pv 7))))))),
   (Zm (Γm:=[.S,.S,.S,.S,.S,.U,.U,.U,.U]) (JG (Zbf (Zc (i:=4) (m:=.S) rfl (by decide)))
   (Zm (Γm:=[.S,.S,.S,.S,.S,.O,.U,.U,.U]) (Je (i:=5) (Zg6 (Zi (Zi (Zi Zv))) (Zb (Zc (i:=0) (m:=.S) rfl (by decide)) (Zb (Zc (i:=1) (m:=.S) rfl (by decide)) (Zb (DE.toA (Zj9 (Zb (DE.toA Zk) (Zb (Zc (i:=2) (m:=.S) rfl (by decide)) Zf)))) Zf)))) (by decide))
   (Jm (UA (k:=1) (DI.c (JQ (Zb (Zc (i:=2) (m:=.S) rfl (by decide)) Zf))) Zl9 ZbJ (DE.PF (Ji (DE.toA (Ze9 (Zi (Zi Zv)) (Zb (Z4 (te:=tC .non) (Zc (i:=5) (m:=.O) rfl (by decide)) (Zc (i:=9) (m:=.S) rfl (by decide))) (Zb (Zc (i:=9) (m:=.S) rfl (by decide)) Zf)))) (Zc (i:=3) (m:=.S) rfl (by decide)))))))
   ZH)
   (Zm (Γm:=[.S,.S,.S,.S,.S,.U,.P,.U,.U]) (ZO (i:=6) (Zax (Zb (DE.toA (VU (DI.c (Jz (DE.FZ (Zgd (Zc (i:=0) (m:=.S) rfl (by decide)) (Zc8 (Zc (i:=1) (m:=.S) rfl (by decide))) Zc9)))) (DE.PF (Ji (Zc (i:=9) (m:=.S) rfl (by decide)) (DE.toA (ZbK (DE.toA Zk) (DE.toA Zk))))))) Zf)) (by decide))
   (Zm (Γm:=[.S,.S,.S,.S,.S,.U,.P,.O,.U]) (Je (i:=7) (Vz J0) (by decide))
   (Zm (Γm:=[.S,.S,.S,.S,.S,.U,.P,.O,.U]) (J9 (Γl:=[.S,.S,.S,.S,.S,.U,.P,.O,.U]) (JQ (Zb (Zc (i:=2) (m:=.S) rfl (by decide)) Zf)) rfl (ZdL (i:=8) (by decide))
   (DS.out (Y:=⟨[.S,.S,.S,.S,.S,.U,.P,.O,.P],[.S,.S,.S,.S,.S,.U,.P,.O,.U],[.S,.S,.S,.S,.S,.U,.P,.O,.U],.F⟩) (Y':=⟨[.S,.S,.S,.S,.S,.U,.P,.O,.U],[.S,.S,.S,.S,.S,.U,.P,.O,.U],[.S,.S,.S,.S,.S,.U,.P,.O,.U],.F⟩) (Zm (Γm:=[.S,.S,.S,.S,.S,.U,.P,.O,.P]) (QR (i:=7) rfl rfl (DE.PF (Ji (DE.toA (Zh (i:=6) rfl)) (Zc (i:=3) (m:=.S) rfl (by decide)))))
   (ZO (i:=6) (Qb (DE.toA (Zh (i:=6) rfl)) (Zc (i:=3) (m:=.S) rfl (by decide))) (by decide))) rfl rfl rfl rfl))
   (Jm (Vx (i:=7) rfl)))))), ?_⟩
 refine Pm.ref Zon (g:=fun xs=>_) ?_
 rintro⟨ns,sk,m,b,mx⟩ ⟨hn,hl,hm,h0,h1⟩
 simp only at hn hl hm h0 h1
 simp only[Zon]
 walk_at "pd"
 unfold ZgM
 cases mx with
 |true =>
  rw[if_pos rfl]
  walk_at "pd"
  rw[show (if m>1 then m else 1)=((max 1 m.toNat:Nat):Int) by split<;>omega]
  rw[Zpe ⟨hn,hl,by omega,by omega⟩,Ztr]
  walk_at "pd"
  rw[ZaR (p:=fun _=>true) (g:=fun j=>.int (stir ((Zcd ns sk.toNat (max 1 m.toNat)).getD j 0) j%b)) (fun i hi=>by
   have hlen:(Zcd ns sk.toNat (max 1 m.toNat)).length=max 1 m.toNat:=Zbm _ _ _
   rw[ZtX]
   walk_at "pd"
   rw[ZnU ⟨by omega,by omega⟩]
   walk_at "pd"
   rw[Ztr])]
  walk_at "pd"
  rw[show ((List.range m.toNat).filter fun _=>true)=List.range m.toNat from Zuq.mpr fun _ _=>rfl,Zt6]
  rfl
 |false =>
  rw[if_neg (by decide)]
  walk_at "pd"
  rw[Zhm (g:=fun c=>c%10^61) (fun z _=>ZaK (by decide))]
  generalize hsum:((ns.drop sk.toNat).map fun(c:Int)=>c%10^61)=cs
  walk_at "pd"
  generalize hw:Uo _ _ _=W
  obtain⟨ρ',rfl,v,rfl⟩:=ZF hw (fun i ρ=>∃v,ρ=[.lst (ns.map PV.int),.int sk,.int m,.int b,.bl false,.non,.int (Zkf cs.sum b i),.lst ((Ziq cs.sum b i).map PV.int),v]) ⟨_,rfl⟩ (by
   rintro i x ρ hx ⟨v,rfl⟩
   obtain⟨hi,rfl⟩:=JF hx
   have hlen:(Ziq cs.sum b i).length=i:=ZcA _ _ _
   walk_at "pd"
   exact Vg ⟨.int (0+(i:Int)),by rw[ZfW,Zkf]⟩)
  walk_at "pd"
  rw[Jl]
theorem Zpy {ns:List Int}{sk m b:Int}{mx:Bool} (h:ns.length<=1000/\(0<=sk/\sk<=1000)/\(0<=m/\m<=1000)/\0<b/\b<=1000000):Zon.fn [.lst (ns.map PV.int),.int sk,.int m,.int b,.bl mx]=.ok (.lst ((ZgM ns sk m b mx).map PV.int)):=Pm.fn_eq Zon (ns,sk,m,b,mx) h fun(a:List Int×Int×Int×Int×Bool) e=>by (simp only[Zon,List.cons.injEq,PV.lst.injEq,PV.int.injEq,PV.str.injEq,PV.bl.injEq,PV.tup.injEq,Jb,and_true] at e ⊢;first|(simp only[e];done)|(subst e;rfl)|(rw[e]))
noncomputable def lyI (n:Nat) (L:List Int):List Int:=L.foldl (fun b a=>b.set a.toNat (b.getD a.toNat 0+1)) (List.replicate n 0)
theorem Zij {n:Nat}:∀(L:List Int) (b:List Int) (s:Int),Bs n s b->(∀a∈L,0<=a/\a<n)->Bs n (s+L.length) (L.foldl (fun b a=>b.set a.toNat (b.getD a.toNat 0+1)) b)
 |[],b,s,h,_=>by simpa using h
 |a::L,b,s,h,hL=>by
  obtain⟨l,nn,sm⟩:=h
  have ha:=hL a (by simp)
  have:=Zij L (b.set a.toNat (b.getD a.toNat 0+1)) (s+1) ⟨by simp[l],fun x hx=>?_, ?_⟩ fun z hz=>hL z (by simp[hz])
  ·rw[Zua,Ztl,show s+((L.length+1:Nat):Int)=s+1+L.length by omega]
   exact this
  ·rcases List.mem_or_eq_of_mem_set hx with z|z
   ·exact nn x z
   ·have:=US nn a.toNat
    omega
  ·rw[Qk (by omega)];omega
theorem Zje {n:Nat}{L:List Int} (h:∀a∈L,0<=a/\a<n):Bs n L.length (lyI n L):=by
 have:=Zij L (List.replicate n 0) 0 ⟨by simp,fun x hx=>by rw[List.eq_of_mem_replicate hx];omega,by simp⟩ h
 rw[ZtX] at this
 exact this
noncomputable def Zoc:Pm:=⟨List Int×Int,fun a=>[.lst (a.1.map PV.int),.int a.2],fun a=>(∀x∈a.1,0<=x/\x<a.2)/\0<=a.2/\a.2<=1000,fun a=>.ok (.lst ((lyI a.2.toNat a.1).map PV.int))⟩
theorem ZrW (T:Txt K mg) {f:Addr}{fd:FuncData} (F:Fun K "_law_laid" "_law_laid" Zom f fd):JT P w K mg base CX0 1 f fd ["places", "pits"] (spF K 2 .F W0 Zoc.fn):=by
 refine F.okP ZpO rfl rfl (fun cdv A outer s H E hr=>?_)
 have hu:=hr.units
 refine⟨_,_,⟨[],[],[],.F⟩,rfl,(Zd (QB (i:=2) ZpO.nd rfl (Jf rfl T.z_range (Za (pv 1) Ze)) (fun _ _ _ _=>Zl) rfl)
   (Zd (Jt PassesOwn.never rfl (ZT (K:=K) (pv 0)) (ZN (i:=3) ZpO.nd rfl (by first|exact Or.inl rfl|exact Or.inr rfl)) (Zj (UW (Z6 J6 (ZI (Zq (K:=K)) (pv 2) (pv 3) (fun _ _=>rfl)) Zl) (Zai (pv 2) (pv 3) Vq))))
   (Zj (Z0 (pv 2))))),
   (Zm (Γm:=[.S,.S,.O,.U]) (Uk (i:=2) (VU (DI.c (JQ (Zb (Zc (i:=1) (m:=.S) rfl (by decide)) Zf))) (DE.PF Zk)) (by decide))
   (Zm (Γm:=[.S,.S,.O,.U]) (J9 (Γl:=[.S,.S,.O,.U]) (Jz (Vb (i:=0) rfl)) rfl (ZdL (i:=3) (by decide))
   (DS.out (Y:=⟨[.S,.S,.O,.P],[.S,.S,.O,.U],[.S,.S,.O,.U],.F⟩) (Y':=⟨[.S,.S,.O,.U],[.S,.S,.O,.U],[.S,.S,.O,.U],.F⟩) (Vi (i:=2) rfl (JA (Z4 (te:=tC .non) (Zc (i:=2) (m:=.O) rfl (by decide)) (DE.toA (Zh (i:=3) rfl))) (DE.toA Zk)) (DE.toA (Zh (i:=3) rfl))) rfl rfl rfl rfl))
   (Jm (Vx (i:=2) rfl)))), ?_⟩
 refine Pm.ref Zoc (g:=fun xs=>_) ?_
 rintro⟨L,m⟩ ⟨hL,hm,hn⟩
 simp only at hL hm hn
 obtain⟨n,rfl⟩:∃n:Nat,m=n:=⟨m.toNat,by omega⟩
 simp only[Zoc]
 walk_at "pd"
 rw[Zjc (g:=fun _=>0) (fun i hi=>rfl),Ztr,show (List.range n).map (fun _=>(0:Int))=lyI n (L.take 0) by simp[lyI,List.map_const']]
 walk_at "pd"
 generalize hw:Uo _ _ _=W
 obtain⟨ρ',rfl,v,rfl⟩:=ZF hw (fun i ρ=>∃v,ρ=[.lst (L.map PV.int),.int n,.lst ((lyI n (L.take i)).map PV.int),v]) ⟨_,rfl⟩ (by
  rintro i x ρ hx ⟨v,rfl⟩
  rw[Ztf] at hx
  obtain⟨a,ha,rfl⟩:=Zt1.mp hx
  obtain⟨a0,a1⟩:=hL a (ZsQ ha)
  have hl:=(Zje (n:=n) (L:=L.take i) fun z hz=>hL z (Ztt hz)).1
  have hs:lyI n (L.take (i+1))=(lyI n (L.take i)).set a.toNat ((lyI n (L.take i)).getD a.toNat 0+1):=by
   unfold lyI
   rw[Zuo,ha,Zum];rfl
  rw[hs]
  generalize lyI n (L.take i)=bb at hl
  walk_at "pd"
  exact Vg ⟨_,rfl⟩)
 walk_at "pd"
 rw[ZsV,ZtV]
theorem ZoN {L:List Int}{n:Int} (h:(∀x∈L,0<=x/\x<n)/\0<=n/\n<=1000):Zoc.fn [.lst (L.map PV.int),.int n]=.ok (.lst ((lyI n.toNat L).map PV.int)):=Pm.fn_eq Zoc (L,n) h fun(a:List Int×Int) e=>by (simp only[Zoc,List.cons.injEq,PV.lst.injEq,PV.int.injEq,PV.str.injEq,PV.bl.injEq,PV.tup.injEq,Jb,and_true] at e ⊢;first|(simp only[e];done)|(subst e;rfl)|(rw[e]))
noncomputable def Zoy:Pm:=⟨Int,fun i=>[.int i],fun _=>True,fun _=>.ok (.bl true)⟩
theorem Zsk (T:Txt K mg) {f:Addr}{fd:FuncData} (F:Fun K "is_whole" "is_whole" Zo5 f fd):JT P w K mg base CX0 1 f fd ["value"] (spF K 1 .P W0 Zoy.fn):=by
 refine F.okP Zsi rfl rfl (fun cdv A outer s H E hr=>?_)
 have hu:=hr.units
 refine⟨_,_,⟨[],[],[],.P⟩,rfl,(Zj (Z0 (Zdu (Zo (ZV (K:=K) (n := "int") rfl) rfl T.z_isinstance Zz (Za (pv 0) (Za (Jv (v:=.ty "int") rfl T.z_int ZdW rfl) Ze))) (Zdt (Zk7 (Zo (ZV (K:=K) (n := "bool") rfl) rfl T.z_isinstance Zz (Za (pv 0) (Za (Jv (v:=.ty "bool") rfl T.z_bool ZcM rfl) Ze)))))))),
   (Z8 (ZdP (DE.toA (Vj (Zc (i:=0) (m:=.S) rfl (by decide)))) (Zl3 (DE.toA (Vj (Zc (i:=0) (m:=.S) rfl (by decide))))))), ?_⟩
 refine Pm.ref Zoy (g:=fun xs=>_) ?_
 intro (i:Int) _
 simp only[Zoy]
 walk_at "pd"
theorem Zpw {i:Int}:Zoy.fn [.int i]=.ok (.bl true):=Pm.fn_eq Zoy i trivial fun _ _=>rfl
noncomputable def Zn8:Pm:=⟨Int×Int,fun a=>[.int a.1,.int a.2],fun _=>True,fun a=>.ok (.bl (decide (a.2<=a.1)))⟩
theorem Zrg (T:Txt K mg) {f:Addr}{fd:FuncData} (F:Fun K "is_whole_from" "is_whole_from" ZnA f fd):JT P w K mg base CX0 2 f fd ["value", "least"] (spF K 2 .P W0 Zn8.fn):=by
 have Zs7:=UY (P:=P) (w:=w) (base:=base) T.Zs0 Zss (fun F=>Zsk T F)
 refine F.okP Zre rfl rfl (fun cdv A outer s H E hr=>?_)
 have hu:=hr.units
 refine⟨_,_,⟨[],[],[],.P⟩,rfl,(Zj (Z0 (Zdu (Zy Zs7 (hr.mono (by decide)) rfl (Za (pv 0) Ze)) (Zdt (UO Zm0 (pv 0) (pv 1) (ZK _)))))),
   (Z8 (ZdP (DE.toA (Ze9 (Zi Zv) (Zb (Zc (i:=0) (m:=.S) rfl (by decide)) Zf))) (ZmA (Zc (i:=0) (m:=.S) rfl (by decide)) (Zc (i:=1) (m:=.S) rfl (by decide))))), ?_⟩
 refine Pm.ref Zn8 (g:=fun xs=>_) ?_
 rintro⟨i,j⟩ _
 simp only[Zn8]
 walk_at "pd"
 rw[Zpw]
 walk_at "pd"
theorem Zou {i j:Int}:Zn8.fn [.int i,.int j]=.ok (.bl (decide (j<=i))):=Pm.fn_eq Zn8 (i,j) trivial fun(a:Int×Int) e=>by (simp only[Zn8,List.cons.injEq,PV.lst.injEq,PV.int.injEq,PV.str.injEq,PV.bl.injEq,PV.tup.injEq,Jb,and_true] at e ⊢;first|(simp only[e];done)|(subst e;rfl)|(rw[e]))
noncomputable def Znz:Pm:=⟨List Int,fun ns=>[.lst (ns.map PV.int)],fun ns=>ns.length<=1000000,fun ns=>.ok (.bl (decide (∀x∈ns,0<=x)))⟩
theorem ZpL (T:Txt K mg) {f:Addr}{fd:FuncData} (F:Fun K "is_list_from_nought" "is_list_from_nought" Zn0 f fd):JT P w K mg base CX0 3 f fd ["values"] (spF K 1 .P W0 Znz.fn):=by
 have Zrz:=UY (P:=P) (w:=w) (base:=base) T.Zrs Zri (fun F=>Zrg T F)
 refine F.okP ZoJ rfl rfl (fun cdv A outer s H E hr=>?_)
 have hu:=hr.units
 refine⟨_,_,⟨[],[],[],.P⟩,rfl,(Zj (Z0 (Zdu (Zo (ZV (K:=K) (n := "list") rfl) rfl T.z_isinstance Zz (Za (pv 0) (Za (Jv (v:=.ty "list") rfl T.z_list J4 rfl) Ze))) (Zdt (Zo (Zgx (K:=K) rfl) rfl T.z_all ZlF (Za (Qo (ZT (K:=K) (pv 0)) (fun _ _ _ _=>(Zy Zrz (hr.mono (by decide)) rfl (Za (pv 1) (Za Zl Ze)))) ZoJ.nd rfl) Ze)))))),
   (Z8 (ZdP (DE.toA (Vj (Zc (i:=0) (m:=.S) rfl (by decide)))) (Zl8 (Zb (DE.toA (VU (DI.c (Jz (Vb (i:=0) rfl))) (DE.PF (Ze9 (Zi (Zi Zv)) (Zb (Zc (i:=1) (m:=.S) rfl (by decide)) (Zb (DE.toA Zk) Zf)))))) Zf)))), ?_⟩
 refine Pm.ref Znz (g:=fun xs=>_) ?_
 intro (ns:List Int) (hn:ns.length<=1000000)
 simp only[Znz]
 walk_at "pd"
 rw[Zjd (g:=fun z=>decide (0<=z)) (fun z _=>Zou)]
 walk_at "pd"
 rw[ZjL]
theorem ZnD {ns:List Int} (h:ns.length<=1000000):Znz.fn [.lst (ns.map PV.int)]=.ok (.bl (decide (∀x∈ns,0<=x))):=Pm.fn_eq Znz ns h fun(a:List Int) e=>by (simp only[Znz,List.cons.injEq,PV.lst.injEq,PV.int.injEq,PV.str.injEq,PV.bl.injEq,PV.tup.injEq,Jb,and_true] at e ⊢;first|(simp only[e];done)|(subst e;rfl)|(rw[e]))
noncomputable def Zoe:Pm:=⟨Unit,fun _=>[],fun _=>True,fun _=>.ok (.int (10^60))⟩
theorem ZrG (T:Txt K mg) {f:Addr}{fd:FuncData} (F:Fun K "most_seeds" "most_seeds" ZnX f fd):JT P w K mg base CX0 1 f fd [] (spF K 0 .P W0 Zoe.fn):=by
 refine F.okP ZrD rfl rfl (fun cdv A outer s H E hr=>?_)
 have hu:=hr.units
 refine⟨_,_,⟨[],[],[],.P⟩,rfl,(Zj (Z0 (Z6 Zb2 Zl Zl))),
   (Z8 (ZbK (DE.toA Zk) (DE.toA Zk))), ?_⟩
 refine Pm.ref Zoe (g:=fun xs=>_) ?_
 rintro _ _
 simp only[Zoe]
 walk_at "pd"
theorem ZoV:Zoe.fn []=.ok (.int (10^60)):=Pm.fn_eq Zoe () trivial fun _ _=>rfl
noncomputable def ZnS:Pm:=⟨List Int,fun ns=>[.lst (ns.map PV.int)],fun ns=>ns.length<=1000,fun ns=>.ok (.bl (Vm ns))⟩
theorem Zsl (T:Txt K mg) {f:Addr}{fd:FuncData} (F:Fun K "is_board" "is_board" Zo6 f fd):JT P w K mg base CX0 4 f fd ["board"] (spF K 1 .P W0 ZnS.fn):=by
 have Zqm:=UY (P:=P) (w:=w) (base:=base) T.Zqd ZpM (fun F=>ZpL T F)
 have Zsg:=UY (P:=P) (w:=w) (base:=base) T.ZrZ ZrO (fun F=>ZrG T F)
 refine F.okP Zsj rfl rfl (fun cdv A outer s H E hr=>?_)
 have hu:=hr.units
 refine⟨_,_,⟨[],[],[],.P⟩,rfl,(Zd (J5 (JO (JE (Zy Zqm (hr.mono (by decide)) rfl (Za (pv 0) Ze)))) (Zj (Z0 Vs)) ZB)
   (Zd (J5 (PW.pt (VC (Z9 Zeo (Zo (Z3 (K:=K)) rfl T.z_len Jk (Za (pv 0) Ze)) (ZaH T.c_FEWEST_PITS rfl) (ZK _)) (Ua (Z9 Zhi (Zo (Z3 (K:=K)) rfl T.z_len Jk (Za (pv 0) Ze)) (ZaH T.c_MOST_PITS rfl) (ZK _))))) (Zj (Z0 Vs)) ZB)
   (Zj (Z0 (UO ZkR (Zo (Vk (K:=K) rfl) rfl T.z_sum Za2 (Za (pv 0) Ze)) (Zfi Zsg (hr.mono (by decide)) rfl) (ZK _)))))),
   (Zm (Γm:=[.S]) (JG (JX (Zbf (DE.toA (Ze9 (Zi Zv) (Zb (Zc (i:=0) (m:=.S) rfl (by decide)) Zf)))))
   (Z8 V7)
   ZH)
   (Zm (Γm:=[.S]) (JG (VI (Z7 (DE.toA (Zgf (DE.toA (Jj (Zb (Zc (i:=0) (m:=.S) rfl (by decide)) Zf))) (DE.toA Zk)))) (Z7 (DE.toA (ZhE (DE.toA (Jj (Zb (Zc (i:=0) (m:=.S) rfl (by decide)) Zf))) (DE.toA Zk)))))
   (Z8 V7)
   ZH)
   (Z8 (Zm9 (DE.toA (Zax (Zb (Zc (i:=0) (m:=.S) rfl (by decide)) Zf))) (DE.toA (Ze9 Zv Zf)))))), ?_⟩
 refine Pm.ref ZnS (g:=fun xs=>_) ?_
 intro (ns:List Int) (hn:ns.length<=1000)
 simp only[ZnS]
 walk_at "pd"
 rw[ZnD (by omega)]
 walk_at "pd"
 by_cases h3:∀x∈ns,0<=x
 ·rw[decide_eq_true h3]
  walk_at "pd"
  by_cases h1:(ns.length:Int)<2
  ·rw[decide_eq_true h1]
   walk_at "pd"
   rw[show Vm ns=false from decide_eq_false (by omega)]
  rw[decide_eq_false h1]
  walk_at "pd"
  by_cases h2:(24:Int)<ns.length
  ·rw[decide_eq_true h2]
   walk_at "pd"
   rw[show Vm ns=false from decide_eq_false (by omega)]
  rw[decide_eq_false h2]
  walk_at "pd"
  rw[ZoV]
  walk_at "pd"
  by_cases h4:ns.sum<=10^60
  ·rw[decide_eq_true h4,Vl.mpr ⟨by omega,by omega,h3,h4⟩]
  ·rw[decide_eq_false h4,show Vm ns=false from decide_eq_false (fun z=>h4 z.2.2.2)]
 ·rw[decide_eq_false h3]
  walk_at "pd"
  rw[show Vm ns=false from decide_eq_false (fun z=>h3 z.2.2.1)]
theorem Zpx {ns:List Int} (h:ns.length<=1000):ZnS.fn [.lst (ns.map PV.int)]=.ok (.bl (Vm ns)):=Pm.fn_eq ZnS ns h fun(a:List Int) e=>by (simp only[ZnS,List.cons.injEq,PV.lst.injEq,PV.int.injEq,PV.str.injEq,PV.bl.injEq,PV.tup.injEq,Jb,and_true] at e ⊢;first|(simp only[e];done)|(subst e;rfl)|(rw[e]))
theorem Zcm:ZnS.calm:=fun a q h=>by (simp only[ZnS] at h;cases h)
noncomputable def ZnH:Pm:=⟨List Int,fun ns=>[.lst (ns.map PV.int)],fun ns=>ns.length<=1000,fun ns=>orX (if Vm ns=true then none else some "BadBoard") .non⟩
theorem Zr3 (T:Txt K mg) {f:Addr}{fd:FuncData} (F:Fun K "check_board" "check_board" ZnL f fd):JT P w K mg base (CX1 P w) 5 f fd ["board"] (spF K 1 .P (W1 K) ZnH.fn):=by
 have Zs8:=UY (P:=P) (w:=w) (base:=base) T.Zs1 Zst (fun F=>Zsl T F)
 obtain⟨C_BadBoard,hC_BadBoard,hQ_BadBoard⟩:=Za4 T.x_exc (n := "BadBoard") (by decide)
 refine F.okX Zr1 rfl rfl (fun cdv A outer s H E hr=>?_)
 have hu:=hr.units
 refine⟨_,_,⟨[.S],[],[],.P⟩,rfl,(Zj (J5 (JO (JE (Zy Zs8 (hr.mono (by decide)) rfl (Za (pv 0) Ze)))) (Zj (ZaF Zcx hQ_BadBoard rfl (T.x_mg _ _ hC_BadBoard) rfl (Za Zaj Ze))) ZB)),
   (JG (JX (Zbf (DE.toA (ZmZ (Zi Zv) (Pm.calm_fn Zcm) (Zb (Zc (i:=0) (m:=.S) rfl (by decide)) Zf)))))
   (ZaS hC_BadBoard (Zi Zv) (by decide) (Zb (DE.toA Zay) Zf))
   ZH), ?_⟩
 refine Pm.ref ZnH (g:=fun xs=>_) ?_
 intro (ns:List Int) (hn:ns.length<=1000)
 simp only[ZnH]
 walk_at "pd"
 rw[Zpx hn]
 walk_at "pd"
 by_cases h:Vm ns=true
 ·rw[h];walk_at "pd"
 ·rw[Bool.not_eq_true] at h
  rw[h];walk_at "pd"
theorem Zow {ns:List Int} (h:ns.length<=1000):ZnH.fn [.lst (ns.map PV.int)]=orX (if Vm ns=true then none else some "BadBoard") .non:=Pm.fn_eq ZnH ns h fun a e=>by
 simp only[ZnH,List.cons.injEq,PV.lst.injEq,and_true] at e ⊢
 rw[Jh e]
noncomputable def ZjR (b o:List Int):Option Str:=if b.length=o.length/\b.sum=o.sum then none else some "Unlike"
noncomputable def ZnI:Pm:=⟨List Int×List Int,fun a=>[.lst (a.1.map PV.int),.lst (a.2.map PV.int)],fun a=>a.1.length<=1000/\a.2.length<=1000,fun a=>orX (ZjR a.1 a.2) .non⟩
theorem Zr4 (T:Txt K mg) {f:Addr}{fd:FuncData} (F:Fun K "check_alike" "check_alike" ZnM f fd):JT P w K mg base (CX1 P w) 1 f fd ["board", "other"] (spF K 2 .P (W1 K) ZnI.fn):=by
 obtain⟨C_Unlike,hC_Unlike,hQ_Unlike⟩:=Za4 T.x_exc (n := "Unlike") (by decide)
 refine F.okX Zr2 rfl rfl (fun cdv A outer s H E hr=>?_)
 have hu:=hr.units
 refine⟨_,_,⟨[.S,.S],[],[],.P⟩,rfl,(Zj (J5 (PW.pt (VC (Z9 (Vf (K:=K) hu) (Zo (Z3 (K:=K)) rfl T.z_len Jk (Za (pv 0) Ze)) (Zo (Z3 (K:=K)) rfl T.z_len Jk (Za (pv 1) Ze)) (ZK _)) (Ua (Z9 (Vf (K:=K) hu) (Zo (Vk (K:=K) rfl) rfl T.z_sum Za2 (Za (pv 0) Ze)) (Zo (Vk (K:=K) rfl) rfl T.z_sum Za2 (Za (pv 1) Ze)) (ZK _))))) (Zj (ZaF Zcx hQ_Unlike rfl (T.x_mg _ _ hC_Unlike) rfl (Za Zaj Ze))) ZB)),
   (JG (VI (Z7 (DE.toA (Js (g:=(!·)) (DE.toA (Jj (Zb (Zc (i:=0) (m:=.S) rfl (by decide)) Zf))) (DE.toA (Jj (Zb (Zc (i:=1) (m:=.S) rfl (by decide)) Zf)))))) (Z7 (DE.toA (Js (g:=(!·)) (DE.toA (Zax (Zb (Zc (i:=0) (m:=.S) rfl (by decide)) Zf))) (DE.toA (Zax (Zb (Zc (i:=1) (m:=.S) rfl (by decide)) Zf)))))))
   (ZaS hC_Unlike (Zi Zv) (by decide) (Zb (DE.toA Zay) Zf))
   ZH), ?_⟩
 refine Pm.ref ZnI (g:=fun xs=>_) ?_
 rintro⟨b,o⟩ ⟨h1,h2⟩
 simp only at h1 h2
 simp only[ZnI]
 walk_at "pd"
 by_cases c:(b.length:Int)=o.length
 ·rw[decide_eq_true c]
  walk_at "pd"
  by_cases d:b.sum=o.sum
  ·rw[decide_eq_true d,show ZjR b o=none from if_pos ⟨by omega,d⟩]
   walk_at "pd"
  ·rw[decide_eq_false d,show ZjR b o=(some "Unlike":Option Str) from if_neg (fun z=>d z.2)]
   walk_at "pd"
 ·rw[decide_eq_false c,show ZjR b o=(some "Unlike":Option Str) from if_neg (fun z=>c (by omega))]
  walk_at "pd"
theorem ZoF {b o:List Int} (h:b.length<=1000/\o.length<=1000):ZnI.fn [.lst (b.map PV.int),.lst (o.map PV.int)]=orX (ZjR b o) .non:=Pm.fn_eq ZnI (b,o) h fun(a:List Int×List Int) e=>by (simp only[ZnI,List.cons.injEq,PV.lst.injEq,PV.int.injEq,PV.str.injEq,PV.bl.injEq,PV.tup.injEq,Jb,and_true] at e ⊢;first|(simp only[e];done)|(subst e;rfl)|(rw[e]))
theorem ZmD:(10:Nat)^61<2^60000:=by
 calc (10:Nat)^61<=(2^4)^61:=Nat.pow_le_pow_left (by decide) _
  _=2^244:=by rw[<- Nat.pow_mul]
  _<2^60000:=Nat.pow_lt_pow_right (by decide) (by decide)
noncomputable def Zn6:Pm:=⟨Int×Int,fun a=>[.int a.1,.int a.2],fun a=>(1<=a.1/\a.1<=24)/\a.2<=10^60,fun a=>.ok (.int (cbN a.1 a.2))⟩
theorem Zro (T:Txt K mg) {f:Addr}{fd:FuncData} (F:Fun K "count_boards" "count_boards" ZnE f fd):JT P w K mg base CX0 1 f fd ["pits", "seeds"] (spF K 2 .P W0 Zn6.fn):=by
 refine F.okP ZoB rfl rfl (fun cdv A outer s H E hr=>?_)
 have hu:=hr.units
 refine⟨_,_,⟨[],[],[],.P⟩,rfl,(Zd (J5 (Z9 Zeo (pv 1) Zl (ZK _)) (Zj (Z0 Zl)) ZB)
   (Zd (Z5 (i:=2) ZoB.nd rfl (by first|exact Or.inl rfl|exact Or.inr rfl) Zl)
   (Zd (Jt PassesOwn.never rfl (Zbt rfl T.z_range (Za Zl (Za (pv 0) Ze))) (ZN (i:=3) ZoB.nd rfl (by first|exact Or.inl rfl|exact Or.inr rfl)) (Zj (Z5 (i:=2) ZoB.nd rfl (by first|exact Or.inl rfl|exact Or.inr rfl) (Z6 JW (Z6 UP (pv 2) (Z6 J6 (pv 1) (pv 3))) (pv 3)))))
   (Zj (Z0 (pv 2)))))),
   (Zm (Γm:=[.S,.S,.U,.U]) (JG (Z7 (DE.toA (Zgf (Zc (i:=1) (m:=.S) rfl (by decide)) (DE.toA Zk))))
   (Z8 Zk)
   ZH)
   (Zm (Γm:=[.S,.S,.P,.U]) (ZO (i:=2) Zk (by decide))
   (Zm (Γm:=[.S,.S,.P,.U]) (J9 (Γl:=[.S,.S,.P,.U]) (ZfX (Zb (DE.toA Zk) (Zb (Zc (i:=0) (m:=.S) rfl (by decide)) Zf))) rfl (ZdL (i:=3) (by decide))
   (DS.out (Y:=⟨[.S,.S,.P,.P],[.S,.S,.P,.U],[.S,.S,.P,.U],.P⟩) (Y':=⟨[.S,.S,.P,.U],[.S,.S,.P,.U],[.S,.S,.P,.U],.P⟩) (ZO (i:=2) (Qb (DE.toA (Za0 (DE.toA (Zh (i:=2) rfl)) (DE.toA (JA (Zc (i:=1) (m:=.S) rfl (by decide)) (DE.toA (Zh (i:=3) rfl)))))) (DE.toA (Zh (i:=3) rfl))) (by decide)) rfl rfl rfl rfl))
   (Z8 (Zh (i:=2) rfl))))), ?_⟩
 refine Pm.ref Zn6 (g:=fun xs=>_) ?_
 rintro⟨p,s⟩ ⟨⟨hp0,hp⟩,hs⟩
 simp only at hp0 hp hs
 simp only[Zn6]
 unfold cbN
 walk_at "pd"
 by_cases h:s<0
 ·rw[decide_eq_true h,if_pos h]
  walk_at "pd"
 ·rw[decide_eq_false h,if_neg h]
  walk_at "pd"
  generalize hw:Uo _ _ _=W
  obtain⟨ρ',rfl,v,rfl⟩:=ZF hw (fun i ρ=>∃v,ρ=[.int p,.int s,.int (cbI s i),v]) ⟨_,rfl⟩ (by
   rintro i x ρ hx ⟨v,rfl⟩
   obtain⟨hi,rfl⟩:=JF hx
   walk_at "pd"
   rw[Zfo ⟨Zgq (by omega) hs (by omega),ZtW (show (s+(1+(i:Int))).natAbs<=10^61 by omega) ZmD⟩]
   walk_at "pd"
   exact Vg ⟨.int (1+(i:Int)),by rw[cbI,Int.add_comm 1 (i:Int)]⟩)
  walk_at "pd"
  rw[Jl]
theorem Zox {p s:Int} (h:(1<=p/\p<=24)/\s<=10^60):Zn6.fn [.int p,.int s]=.ok (.int (cbN p s)):=Pm.fn_eq Zn6 (p,s) h fun(a:Int×Int) e=>by (simp only[Zn6,List.cons.injEq,PV.lst.injEq,PV.int.injEq,PV.str.injEq,PV.bl.injEq,PV.tup.injEq,Jb,and_true] at e ⊢;first|(simp only[e];done)|(subst e;rfl)|(rw[e]))
theorem QE:Zn6.calm:=fun a q h=>by (simp only[Zn6] at h;cases h)
noncomputable def Zlt (b:List Int):Option Str:=if 1000<cbN b.length b.sum then some "TooMany" else none
noncomputable def Zn3:Pm:=⟨List Int,fun a=>[.lst (a.map PV.int)],fun a=>(1<=a.length/\a.length<=24)/\a.sum<=10^60,fun a=>orX (Zlt a) .non⟩
theorem Zq1 (T:Txt K mg) {f:Addr}{fd:FuncData} (F:Fun K "check_few_boards" "check_few_boards" Zn5 f fd):JT P w K mg base (CX1 P w) 2 f fd ["board"] (spF K 1 .P (W1 K) Zn3.fn):=by
 have ZrC:=UY (P:=P) (w:=w) (base:=base) T.Zr7 Zru (fun F=>Zro T F)
 obtain⟨C_TooMany,hC_TooMany,hQ_TooMany⟩:=Za4 T.x_exc (n := "TooMany") (by decide)
 refine F.okX Zqs rfl rfl (fun cdv A outer s H E hr=>?_)
 have hu:=hr.units
 refine⟨_,_,⟨[.S],[],[],.P⟩,rfl,(Zj (J5 (Z9 Zhi (Zy ZrC (hr.mono (by decide)) rfl (Za (Zo (Z3 (K:=K)) rfl T.z_len Jk (Za (pv 0) Ze)) (Za (Zo (Vk (K:=K) rfl) rfl T.z_sum Za2 (Za (pv 0) Ze)) Ze))) (ZaH T.c_MOST_BOARDS rfl) (ZK _)) (Zj (ZaF Zcx hQ_TooMany rfl (T.x_mg _ _ hC_TooMany) rfl (Za Zaj Ze))) ZB)),
   (JG (Z7 (DE.toA (ZhE (DE.toA (ZmZ (Zi (Zi Zv)) (Pm.calm_fn QE) (Zb (DE.toA (Jj (Zb (Zc (i:=0) (m:=.S) rfl (by decide)) Zf))) (Zb (DE.toA (Zax (Zb (Zc (i:=0) (m:=.S) rfl (by decide)) Zf))) Zf)))) (DE.toA Zk))))
   (ZaS hC_TooMany (Zi Zv) (by decide) (Zb (DE.toA Zay) Zf))
   ZH), ?_⟩
 refine Pm.ref Zn3 (g:=fun xs=>_) ?_
 rintro(b:List Int) ⟨⟨h0,h1⟩,h2⟩
 simp only[Zn3]
 walk_at "pd"
 rw[Zox ⟨⟨by omega,by omega⟩,h2⟩]
 walk_at "pd"
 by_cases c:1000<cbN b.length b.sum
 ·rw[decide_eq_true c,show Zlt b=(some "TooMany":Option Str) from if_pos c]
  walk_at "pd"
 ·rw[decide_eq_false c,show Zlt b=none from if_neg c]
  walk_at "pd"
theorem ZnR {b:List Int} (h:(1<=b.length/\b.length<=24)/\b.sum<=10^60):Zn3.fn [.lst (b.map PV.int)]=orX (Zlt b) .non:=Pm.fn_eq Zn3 b h fun(a:List Int) e=>by (simp only[Zn3,List.cons.injEq,PV.lst.injEq,PV.int.injEq,PV.str.injEq,PV.bl.injEq,PV.tup.injEq,Jb,and_true] at e ⊢;first|(simp only[e];done)|(subst e;rfl)|(rw[e]))
theorem Zjq {b:List Int}{i:Int}:grd (.tup [Jd b,.int i])=.ok (.tup [Jd b,.int i]):=by
 unfold grd
 simp only[PV.flat,PV.flats,Vh,Bool.and_self,if_true]
noncomputable def ZcC (p:Int):PV:=.tup [.str "sow",.int p]
noncomputable def Zog:Pm:=⟨List Int×List (List Key)×List PV,fun a=>[Jd a.1,.box none (.dt a.2.1) a.2.2],fun a=>∃N ys ps,Ze7 a.2.1 a.2.2 N ys ps/\ys 0=a.1/\N<=a.2.1.length/\N<=100000,fun a=>.ok (.lst ((ZiW a.2.1 a.2.2 (a.2.1.length+1) a.1).reverse.map ZcC))⟩
theorem Zsz (T:Txt K mg) {f:Addr}{fd:FuncData} (F:Fun K "plan_to" "plan_to" ZoS f fd):JT P w K mg base CX0 1 f fd ["goal", "came_from"] (spF K 2 .F W0 Zog.fn):=by
 refine F.okP Zqn rfl rfl (fun cdv A outer s H E hr=>?_)
 have hu:=hr.units
 refine⟨_,_,⟨[],[],[],.F⟩,rfl,(Zd (Z5 (i:=2) Zqn.nd rfl (by first|exact Or.inl rfl|exact Or.inr rfl) (JV Ze))
   (Zd (Z5 (i:=3) Zqn.nd rfl (by first|exact Or.inl rfl|exact Or.inr rfl) (Zfh (hu1 hu) (pv 1) (pv 0) (fun _ _=>rfl)))
   (Zd (Zdr PassesOwn.never (Z9 ZiX (pv 3) Zbu (ZK _)) (Zd (Jq (ZaI PySem.F.plainAttrs_list PySem.F.slot_list_append PySem.F.type_list_append Jr (pv 2) (Za (Uy (Za Zaj (Za (ZI (Zq (K:=K)) (pv 3) Zl (fun _ _=>rfl)) Ze))) Ze)))
   (Zj (Z5 (i:=3) Zqn.nd rfl (by first|exact Or.inl rfl|exact Or.inr rfl) (Zfh (hu1 hu) (pv 1) (ZI (Zq (K:=K)) (pv 3) Zl (fun _ _=>rfl)) (fun _ _=>rfl))))))
   (Zd (Jq (Zk8 PySem.F.plainAttrs_list PySem.F.slot_list_reverse PySem.F.type_list_reverse Zep (pv 2)))
   (Zj (Z0 (pv 2))))))),
   (Zm (Γm:=[.S,.S,.O,.U]) (Je (i:=2) (Vz J0) (by decide))
   (Zm (Γm:=[.S,.S,.O,.P]) (ZO (i:=3) (DE.grd (Zgg (Zc (i:=1) (m:=.S) rfl (by decide)) (Zc (i:=0) (m:=.S) rfl (by decide)))) (by decide))
   (Zm (Γm:=[.S,.S,.O,.P]) (ZdI (Γ:=[.S,.S,.O,.P]) (Z7 (DE.toA (Zj8 (DE.toA (Zh (i:=3) rfl)))))
   (Zm (Γm:=[.S,.S,.O,.P]) (QR (i:=2) rfl rfl (DE.PF (DE.grd (QS (Zb (DE.toA Zay) (Zb (Z4 (te:=tC .non) (DE.toA (Zh (i:=3) rfl)) (DE.toA Zk)) Zf))))))
   (ZO (i:=3) (DE.grd (Zgg (Zc (i:=1) (m:=.S) rfl (by decide)) (Z4 (te:=tC .non) (DE.toA (Zh (i:=3) rfl)) (DE.toA Zk)))) (by decide))))
   (Zm (Γm:=[.S,.S,.O,.P]) (Zj0 (i:=2) rfl)
   (Jm (Vx (i:=2) rfl)))))), ?_⟩
 refine Pm.ref Zog (g:=fun xs=>_) ?_
 rintro⟨g,ks,xs⟩ ⟨N,ys,ps,C,h0,hN,hN2⟩
 simp only at C h0 hN
 simp only[Zog]
 have ho:=C.org (ks.length+1) 0 (by omega) (by omega)
 rw[h0,Nat.sub_zero] at ho
 rw[ho]
 have org:∀t,t<=N->atK ks xs (tI (ys t))=some (if t=N then .non else .tup [Jd (ys (t+1)),.int (ps t)]):=fun t ht=>by
  by_cases c:t=N
  ·subst c;rw[C.last,if_pos rfl]
  ·rw[C.up t (by omega),if_neg c]
 walk_at "pd"
 rw[<- h0,Zfu (org 0 (by omega))]
 have hg:∀t,grd (if t=N then PV.non else .tup [Jd (ys (t+1)),.int (ps t)])=.ok (if t=N then PV.non else .tup [Jd (ys (t+1)),.int (ps t)]):=fun t=>by
  split
  ·rfl
  ·exact Zjq
 simp only[Rr.bind_ok]
 rw[hg 0]
 walk_at "pd"
 generalize hw:Us _ _ _=W
 obtain⟨ρ',rfl,rfl⟩:=Qz hw N (fun t ρ=>ρ=[Jd (ys 0),.box none (.dt ks) xs,.lst ((List.range t).map fun k=>ZcC (ps k)),if t=N then .non else .tup [Jd (ys (t+1)),.int (ps t)]]) rfl (by
  rintro t ρ ht rfl
  rw[if_neg (show ¬t=N by omega)]
  constructor
  ·walk_at "pd"
   rfl
  ·walk_at "pd"
   rw[Vt (by simp;omega)]
   walk_at "pd"
   rw[Zfu (org (t+1) (by omega))]
   walk_at "pd"
   rw[hg]
   walk_at "pd"
   refine Vg ?_
   rw[Zux,ZtI]
   rfl) (by
  rintro ρ rfl
  rw[if_pos rfl]
  walk_at "pd")
 walk_at "pd"
 rw[Zf5 (by rw[<- ZuV];exact QQ (fun k=>rfl) _) (by simp;omega)]
 walk_at "pd"
 simp only[ZtA]
 rw[<- ZuV,<- ZuV,Zt6]
 rfl
theorem Zqf {g:List Int}{ks:List (List Key)}{xs:List PV} (h:∃N ys ps,Ze7 ks xs N ys ps/\ys 0=g/\N<=ks.length/\N<=100000):Zog.fn [Jd g,.box none (.dt ks) xs]=.ok (.lst ((ZiW ks xs (ks.length+1) g).reverse.map ZcC)):=Pm.fn_eq Zog (g,ks,xs) h (fun(a:List Int×List (List Key)×List PV) e=>by
 have e':a=(g,ks,xs):=by
  simp only[Zog,List.cons.injEq,PV.box.injEq,Jd,PV.tup.injEq,and_true] at e
  obtain⟨e1,e2⟩:=e
  refine Prod.ext (Jh e1) (Prod.ext ?_ e2.2.2)
  have:=e2.2.1
  injection this
 rw[e'])
theorem Zeg:Zog.calm:=fun a q h=>by (simp only[Zog] at h;cases h)
noncomputable def ZoA:Pm:=⟨List Int×Int,fun a=>[.tup (a.1.map PV.int),.int a.2],fun a=>0<=a.2/\a.2<a.1.length/\a.1.length<=1000,fun a=>.ok (Zcn (Va a))⟩
theorem Zsy (T:Txt K mg) {f:Addr}{fd:FuncData} (F:Fun K "sow_pit" "sow_pit" ZoR f fd):JT P w K mg base CX0 1 f fd ["board", "pit"] (spF K 2 .F W0 ZoA.fn):=by
 refine F.okP Zo3 rfl rfl (fun cdv A outer s H E hr=>?_)
 have hu:=hr.units
 refine⟨_,_,⟨[],[],[],.F⟩,rfl,(Zd (Z5 (i:=2) Zo3.nd rfl (by first|exact Or.inl rfl|exact Or.inr rfl) (Zo (Z3 (K:=K)) rfl T.z_len Jk (Za (pv 0) Ze)))
   (Zd (Z5 (i:=3) Zo3.nd rfl (by first|exact Or.inl rfl|exact Or.inr rfl) (Z6 JW (ZI (Zq (K:=K)) (pv 0) (pv 1) (fun _ _=>rfl)) (pv 2)))
   (Zd (Z5 (i:=4) Zo3.nd rfl (by first|exact Or.inl rfl|exact Or.inr rfl) (Z6 Jg (ZI (Zq (K:=K)) (pv 0) (pv 1) (fun _ _=>rfl)) (pv 2)))
   (Zd (QB (i:=5) Zo3.nd rfl (ZiL (K:=K) (pv 0)) (fun _ _ _ _=>(Z6 J6 (pv 8) (pv 3))) rfl)
   (Zd (UW (pv 3) (Zai (pv 5) (pv 1) Vq))
   (Zd (Z5 (i:=6) Zo3.nd rfl (by first|exact Or.inl rfl|exact Or.inr rfl) (pv 1))
   (Zd (Jt PassesOwn.never rfl (Jf rfl T.z_range (Za (pv 4) Ze)) (ZN (i:=7) Zo3.nd rfl (by first|exact Or.inl rfl|exact Or.inr rfl)) (Zd (Z5 (i:=6) Zo3.nd rfl (by first|exact Or.inl rfl|exact Or.inr rfl) (Z6 Jg (Z6 J6 (pv 6) Zl) (pv 2)))
   (Zj (ZiJ (pv 5) (pv 6) (ZfO (K:=K)) Zl Zlh Vq))))
   (Zj (Z0 (Uy (Za (pv 5) (Za (pv 6) Ze)))))))))))),
   (Zm (Γm:=[.S,.S,.P,.U,.U,.U,.U,.U]) (ZO (i:=2) (Jj (Zb (Zc (i:=0) (m:=.S) rfl (by decide)) Zf)) (by decide))
   (Zm (Γm:=[.S,.S,.P,.P,.U,.U,.U,.U]) (ZO (i:=3) (Qb (Z4 (te:=tC .non) (Zc (i:=0) (m:=.S) rfl (by decide)) (Zc (i:=1) (m:=.S) rfl (by decide))) (DE.toA (Zh (i:=2) rfl))) (by decide))
   (Zm (Γm:=[.S,.S,.P,.P,.P,.U,.U,.U]) (ZO (i:=4) (Ji (Z4 (te:=tC .non) (Zc (i:=0) (m:=.S) rfl (by decide)) (Zc (i:=1) (m:=.S) rfl (by decide))) (DE.toA (Zh (i:=2) rfl))) (by decide))
   (Zm (Γm:=[.S,.S,.P,.P,.P,.O,.U,.U]) (Uk (i:=5) (VU (DI.c (Zly (DE.PZ (DE.grd (Zc (i:=0) (m:=.S) rfl (by decide)))))) (DE.PF (JA (Zc (i:=8) (m:=.S) rfl (by decide)) (DE.toA (Zh (i:=3) rfl))))) (by decide))
   (Zm (Γm:=[.S,.S,.P,.P,.P,.O,.U,.U]) (Vi (i:=5) rfl (Zh (i:=3) rfl) (Zc (i:=1) (m:=.S) rfl (by decide)))
   (Zm (Γm:=[.S,.S,.P,.P,.P,.O,.P,.U]) (ZO (i:=6) (DE.grd (Zc (i:=1) (m:=.S) rfl (by decide))) (by decide))
   (Zm (Γm:=[.S,.S,.P,.P,.P,.O,.P,.U]) (J9 (Γl:=[.S,.S,.P,.P,.P,.O,.P,.U]) (JQ (Zb (DE.toA (Zh (i:=4) rfl)) Zf)) rfl (ZdL (i:=7) (by decide))
   (DS.out (Y:=⟨[.S,.S,.P,.P,.P,.O,.P,.P],[.S,.S,.P,.P,.P,.O,.P,.U],[.S,.S,.P,.P,.P,.O,.P,.U],.F⟩) (Y':=⟨[.S,.S,.P,.P,.P,.O,.P,.U],[.S,.S,.P,.P,.P,.O,.P,.U],[.S,.S,.P,.P,.P,.O,.P,.U],.F⟩) (Zm (Γm:=[.S,.S,.P,.P,.P,.O,.P,.P]) (ZO (i:=6) (Ji (DE.toA (JA (DE.toA (Zh (i:=6) rfl)) (DE.toA Zk))) (DE.toA (Zh (i:=2) rfl))) (by decide))
   (Zh9 (i:=5) rfl rfl (DE.toA (Zh (i:=6) rfl)) (DE.toA Zk))) rfl rfl rfl rfl))
   (Jm (ZaU (ZM (Vx (i:=5) rfl) (ZM (DE.PF (Zh (i:=6) rfl)) J0))))))))))), ?_⟩
 refine Pm.ref ZoA (g:=fun xs=>_) ?_
 rintro⟨ns,p⟩ ⟨h0,h1,h2⟩
 simp only at h0 h1 h2
 simp only[ZoA]
 walk_at "pd"
 try rw[Zek]
 walk_at "pd"
 try rw[QG h0 h1]
 walk_at "pd"
 try rw[Zfs (Zgo 3 (by omega) (by omega))]
 walk_at "pd"
 try rw[QG h0 h1]
 walk_at "pd"
 try rw[ZaK (show (0:Int)<ns.length by omega)]
 walk_at "pd"
 try rw[ZbF]
 walk_at "pd"
 try rw[ZhP]
 walk_at "pd"
 try rw[ZfA (by simp;omega)]
 walk_at "pd"
 have hc:ZdA (fun x=>Zmw x (.int (ns.getD p.toNat 0/ns.length))) (ns.map PV.int)=.ok ((ns.map fun z=>z+ns.getD p.toNat 0/ns.length).map PV.int):=by
  rw[ZaN (g:=fun x=>match x with|.int z=>PV.int (z+ns.getD p.toNat 0/ns.length)|_=>.non)]
  ·simp[Function.comp_def]
  ·intro x hx
   obtain⟨z,_,rfl⟩:=Ztm.mp hx
   rfl
 rw[hc]
 walk_at "pd"
 first|rw[QF h0 (by simp;omega),Za9 h0 h1]|rw[Za9 h0 h1]
 walk_at "pd"
 have o0:=Zts (ns.getD p.toNat 0) (show (ns.length:Int)≠0 by omega)
 have o1:=Ztn (ns.getD p.toNat 0) (show (0:Int)<ns.length by omega)
 try rw[Zdx (by omega)]
 walk_at "pd"
 generalize hs:ns.getD p.toNat 0/ns.length=rounds
 generalize ho:ns.getD p.toNat 0%ns.length=over at o0 o1
 generalize hb:(fun(x:PV) (ρ:List PV)=>_)=body
 obtain⟨ρ',e1,e2⟩:=ZdF (b:=body) (xs:=Zci 0 over.toNat) (ρ:=[.tup (ns.map PV.int),.int p,.int ns.length,.int rounds,.int over,.lst ((tab ns.length (UK ns p 0)).map PV.int),.int p,.non])
  (fun i ρ=>∃v,ρ=[.tup (ns.map PV.int),.int p,.int ns.length,.int rounds,.int over,.lst ((tab ns.length (UK ns p i)).map PV.int),.int ((p+i)%ns.length),v]) ⟨_,by rw[Int.natCast_zero,ZuZ,Zt9 h0 h1]⟩ (by
  rintro i x ρ hx ⟨v,rfl⟩
  obtain⟨hi,rfl⟩:=JF hx
  subst hb
  have m1:=Ug h0 h1 (show (0:Int)<=i by omega) (by omega)
  have m2:=Ug h0 h1 (show (0:Int)<=(i:Int)+1 by omega) (by omega)
  have e:((p+(i:Int))%ns.length+1)%ns.length=(p+((i:Int)+1))%ns.length:=by
   rw[m1,m2]
   split
   ·rw[show p+(i:Int)+1=p+((i:Int)+1) by omega,m2]
   ·rw[Zt9 (by omega) (by omega)];split<;>omega
  have b:0<=(p+((i:Int)+1))%ns.length/\(p+((i:Int)+1))%ns.length<ns.length:=by rw[m2];split<;>omega
  walk_at "pd"
  try rw[ZaK (by omega)]
  walk_at "pd"
  first|rw[e,Qq b.1 (by rw[ZU];exact b.2)]|rw[e]
  walk_at "pd"
  rw[V9 (by omega)]
  have hst:=Zdh h0 h1 (i:=i) (by omega)
  have hset:=QF (ns:=tab ns.length (UK ns p i)) (k:=(p+((i:Int)+1))%ns.length) (y:=UK ns p i ((p+((i:Int)+1))%ns.length).toNat+1) b.1 (by rw[ZU];exact b.2)
  rw[hst] at hset
  rw[hset]
  walk_at "pd"
  exact Vg ⟨_,by rw[show ((i+1:Nat):Int)=(i:Int)+1 by omega]⟩)
 obtain⟨v,rfl⟩:=e2
 rw[e1]
 walk_at "pd"
 rw[Jl,Zt0 o0]
 show Rr.ok (PV.tup _)=Rr.ok (PV.tup _)
 unfold Va Jp Uf
 rw[ho]
theorem Zqe {ns:List Int}{p:Int} (h:0<=p/\p<ns.length/\ns.length<=1000):ZoA.fn [.tup (ns.map PV.int),.int p]=.ok (Zcn (Va (ns,p))):=
 Pm.fn_eq ZoA (ns,p) h fun⟨ns',k'⟩ e=>by
  simp only[ZoA,List.cons.injEq,PV.tup.injEq,PV.int.injEq,and_true] at e ⊢
  rw[Jh e.1,e.2]
noncomputable def ZnP:Pm:=⟨List Int×List Int,fun a=>[Jd a.1,.lst (a.2.map PV.int)],fun a=>(∀p∈a.2,0<=p/\p<a.1.length)/\a.1.length<=1000/\a.2.length<=1000,fun a=>.ok (.lst ((Uw a.2 a.1).map ZgH))⟩
theorem Zim {i:Int}{b:List Int}:grd (.tup [.int i,Jd b])=.ok (.tup [.int i,Jd b]):=by
 unfold grd
 simp only[PV.flat,PV.flats,Vh,Bool.and_self,if_true]
theorem ZrE (T:Txt K mg) {f:Addr}{fd:FuncData} (F:Fun K "sowings_of" "sowings_of" ZnV f fd):JT P w K mg base CX0 2 f fd ["board", "pits"] (spF K 2 .F W0 ZnP.fn):=by
 have ZsE:=UY (P:=P) (w:=w) (base:=base) T.ZsC Zs5 (fun F=>Zsy T F)
 refine F.okP Zp1 rfl rfl (fun cdv A outer s H E hr=>?_)
 have hu:=hr.units
 refine⟨_,_,⟨[],[],[],.F⟩,rfl,(Zj (Z0 (VM (ZT (K:=K) (pv 1)) (VD Zp1.nd) (fun _ _ _ _=>(Zie (fun _ _ h=>h) (Z9 Zhi (ZI (Zq (K:=K)) (pv 0) (pv 2) (fun _ _=>rfl)) Zl (ZK _)))) (fun _ _ _ _=>(Uy (Za (pv 2) (Za (ZC (Jn (K:=K)) rfl T.z_tuple JR (Za (ZI (Zq (K:=K)) (Zy ZsE (hr.mono (by decide)) rfl (Za (pv 0) (Za (pv 2) Ze))) Zl (fun _ _=>rfl)) Ze)) Ze)))) hv1 Zp1.nd rfl))),
   (Jm (UA (k:=1) (DI.c (Jz (Vb (i:=1) rfl))) Zl9 (Z7 (DE.toA (ZhE (Z4 (te:=tC .non) (Zc (i:=0) (m:=.S) rfl (by decide)) (Zc (i:=2) (m:=.S) rfl (by decide))) (DE.toA Zk)))) (DE.PF (DE.grd (QS (Zb (Zc (i:=2) (m:=.S) rfl (by decide)) (Zb (Vy (Zb (Z4 (te:=tC .non) (DE.toA (Zg6 (Zi (Zi Zv)) (Zb (Zc (i:=0) (m:=.S) rfl (by decide)) (Zb (Zc (i:=2) (m:=.S) rfl (by decide)) Zf)))) (DE.toA Zk)) Zf)) Zf))))))), ?_⟩
 refine Pm.ref ZnP (g:=fun xs=>_) ?_
 rintro⟨b,Q⟩ ⟨h0,h1,h2⟩
 simp only at h0 h1 h2
 simp only[ZnP]
 walk_at "pd"
 rw[ZfS (q:=PV.int) (p:=fun p=>decide (0<b.getD p.toNat 0)) (g:=fun p=>ZgH (p,Jp b p)) (fun p hp=>by
  have hp':=h0 p hp
  unfold Jd
  walk_at "pd"
  rw[QG (by omega) (by omega)]
  walk_at "pd"
  by_cases c:0<b.getD p.toNat 0
  ·rw[decide_eq_true c]
   walk_at "pd"
   rw[Zqe ⟨by omega,by omega,h1⟩]
   simp only[Zcn,Va]
   walk_at "pd"
   rw[show UX [PV.lst ((Jp b p).map PV.int)]=.ok (Jd (Jp b p)) from rfl]
   walk_at "pd"
   rw[Zim]
   walk_at "pd"
   rfl
  ·rw[decide_eq_false c]
   walk_at "pd")]
 walk_at "pd"
 unfold Uw
 rw[Zt6];rfl
theorem ZoT {b Q:List Int} (h:(∀p∈Q,0<=p/\p<b.length)/\b.length<=1000/\Q.length<=1000):ZnP.fn [Jd b,.lst (Q.map PV.int)]=.ok (.lst ((Uw Q b).map ZgH)):=Pm.fn_eq ZnP (b,Q) h (fun(a:List Int×List Int) e=>by
 have e':a=(b,Q):=by
  simp only[ZnP,Jd,List.cons.injEq,PV.tup.injEq,PV.lst.injEq,and_true] at e
  exact Prod.ext (Jh e.1) (Jh e.2)
 rw[e'])
theorem Zlm {b:List Int}{i:Int}:grd (.tup [Jd b,.int i])=.ok (.tup [Jd b,.int i]):=by
 unfold grd
 simp only[PV.flat,PV.flats,Vh,Bool.and_self,if_true]
theorem Qv {t:List Int}:grd (Jd t)=.ok (Jd t):=ZbF
theorem ZeG:∀{a b:List (List Int)},a.map tI=b.map tI->a=b
 |[],[],_=>rfl
 |[],y::b,h=>by simp at h
 |x::a,[],h=>by simp at h
 |x::a,y::b,h=>by
  simp only[Ztg,List.cons.injEq] at h
  rw[ZeH h.1,ZeG h.2]
theorem VZ {x:List Int}{bs:List (List Int)}:tI x∈bs.map tI ↔ x∈bs:=by
 constructor
 ·intro h
  obtain⟨y,hy,e⟩:=Ztm.mp h
  rw[<- ZeH e];exact hy
 ·exact fun h=>List.mem_map_of_mem h
structure NlP (lv:List (List Int)) (Q:List Int) (bs:List (List Int)) (vs:List PV):Prop where
 hl:∀x∈lv,(∀p∈Q,0<=p/\p<x.length)/\x.length<=1000
 hq:Q.length<=1000
 ln:vs.length=bs.length
 sz:bs.length+lv.length*Q.length<=900000
 fl:PV.flats vs=true
theorem Zdi (Q x:List Int):(Uw Q x).length<=Q.length:=by
 unfold Uw
 rw[ZsV]
 exact Zu7 _ _
structure NlI (n:Nat) (st:NB):Prop where
 ln:st.2.2.length=st.2.1.length
 sz:st.2.1.length<=n
 fz:st.1.length<=n
theorem NlI.step {n:Nat}{st:NB} (h:NlI n st) (x:List Int) (y:Int×List Int):NlI (n+1) (stB x st y):=by
 have h1:=h.ln
 have h2:=h.sz
 have h3:=h.fz
 unfold stB
 split
 ·exact⟨h1,by omega,by omega⟩
 ·exact⟨by simp[h1],by simp;omega,by simp;omega⟩
theorem NlI.fold {x:List Int}:∀{L:List (Int×List Int)}{n:Nat}{st:NB},NlI n st->NlI (n+L.length) (L.foldl (stB x) st)
 |[],n,st,h=>h
 |y::L,n,st,h=>by
  have:=NlI.fold (x:=x) (L:=L) (h.step x y)
  rw[Ztl,show n+(L.length+1)=n+1+L.length by omega]
  exact this
theorem NlI.up {n m:Nat}{st:NB} (h:NlI n st) (hm:n<=m):NlI m st:=⟨h.ln,Ztu h.sz hm,Ztu h.fz hm⟩
theorem NlI.lv {Q:List Int}:∀{lv:List (List Int)}{n:Nat}{st:NB},NlI n st->NlI (n+lv.length*Q.length) (lvB Q lv st)
 |[],n,st,h=>by simpa[lvB] using h
 |x::lv,n,st,h=>by
  have h1:NlI (n+Q.length) (bdB Q x st):=(NlI.fold (x:=x) (L:=Uw Q x) h).up (by have:=Zdi Q x;omega)
  have:=NlI.lv (Q:=Q) (lv:=lv) h1
  rw[Ztl,ZuM,show n+(lv.length*Q.length+1*Q.length)=n+Q.length+lv.length*Q.length by omega]
  exact this
noncomputable def ZnQ:Pm:=⟨List (List Int)×List Int×List (List Int)×List PV,fun a=>[.box none (.dt (a.2.2.1.map tI)) a.2.2.2,.lst (a.1.map Jd),.lst (a.2.1.map PV.int)],fun a=>NlP a.1 a.2.1 a.2.2.1 a.2.2.2,fun a=>.ok (.tup [.lst ((lvB a.2.1 a.1 ([],a.2.2)).1.map Jd),.box none (.dt ((lvB a.2.1 a.1 ([],a.2.2)).2.1.map tI)) (lvB a.2.1 a.1 ([],a.2.2)).2.2])⟩
theorem ZrF (T:Txt K mg) {f:Addr}{fd:FuncData} (F:Fun K "next_level" "next_level" ZnW f fd):JT P w K mg base CX0 3 f fd ["level", "pits", "came_from"] (spM K 2 2 ZnQ.fnM):=by
 have Zse:=UY (P:=P) (w:=w) (base:=base) T.ZrX ZrM (fun F=>ZrE T F)
 refine F.okM (n:=2) (j:=2) ZoX rfl rfl (by decide) (fun cdv A outer s H E hr=>?_)
 have hu:=hr.units
 refine⟨_,_,⟨[.S,.S,.O,.U,.U,.U],[],[],.N⟩,rfl,rfl,(Zd (Z5 (i:=3) ZoX.nd rfl (by first|exact Or.inl rfl|exact Or.inr rfl) (JV Ze))
   (Zd (Jt PassesOwn.never rfl (ZT (K:=K) (pv 0)) (ZN (i:=4) ZoX.nd rfl (by first|exact Or.inl rfl|exact Or.inr rfl)) (Zj (Jt PassesOwn.never rfl (ZT (K:=K) (Zy Zse (hr.mono (by decide)) rfl (Za (pv 4) (Za (pv 1) Ze)))) (ZN (i:=5) ZoX.nd rfl (by first|exact Or.inl rfl|exact Or.inr rfl)) (Zj (J5 (Zfd (QD (hu1 hu) (ZI (Zq (K:=K)) (pv 5) Zl (fun _ _=>rfl)) (pv 2))) (Zd (Zfe (hu1 hu) (pv 2) (ZI (Zq (K:=K)) (pv 5) Zl (fun _ _=>rfl)) (Uy (Za (pv 4) (Za (ZI (Zq (K:=K)) (pv 5) Zl (fun _ _=>rfl)) Ze))) rfl)
   (Zj (Jq (ZaI PySem.F.plainAttrs_list PySem.F.slot_list_append PySem.F.type_list_append Jr (pv 3) (Za (ZI (Zq (K:=K)) (pv 5) Zl (fun _ _=>rfl)) Ze))))) ZB)))))
   (Zj (Z0 (pv 3))))),
   (Zm (Γm:=[.S,.S,.O,.O,.U,.U]) (Je (i:=3) (Vz J0) (by decide))
   (Zm (Γm:=[.S,.S,.O,.O,.U,.U]) (J9 (Γl:=[.S,.S,.O,.O,.U,.U]) (Jz (Vb (i:=0) rfl)) rfl (ZdL (i:=4) (by decide))
   (DS.out (Y:=⟨[.S,.S,.O,.O,.P,.U],[.S,.S,.O,.O,.U,.U],[.S,.S,.O,.O,.U,.U],.N⟩) (Y':=⟨[.S,.S,.O,.O,.U,.U],[.S,.S,.O,.O,.U,.U],[.S,.S,.O,.O,.U,.U],.N⟩) (J9 (Γl:=[.S,.S,.O,.O,.P,.U]) (Jz (DE.FZ (Zg6 (Zi (Zi Zv)) (Zb (DE.toA (Zh (i:=4) rfl)) (Zb (Zc (i:=1) (m:=.S) rfl (by decide)) Zf))))) rfl (ZdL (i:=5) (by decide))
   (DS.out (Y:=⟨[.S,.S,.O,.O,.P,.P],[.S,.S,.O,.O,.P,.U],[.S,.S,.O,.O,.P,.U],.N⟩) (Y':=⟨[.S,.S,.O,.O,.P,.U],[.S,.S,.O,.O,.P,.U],[.S,.S,.O,.O,.P,.U],.N⟩) (JG (Zbf (DE.toA (QT (Z4 (te:=tC .non) (DE.toA (Zh (i:=5) rfl)) (DE.toA Zk)) (Zc (i:=2) (m:=.O) rfl (by decide)))))
   (Zm (Γm:=[.S,.S,.O,.O,.P,.P]) (ZdJ (i:=2) rfl (DE.PF (DE.grd (QS (Zb (DE.toA (Zh (i:=4) rfl)) (Zb (Z4 (te:=tC .non) (DE.toA (Zh (i:=5) rfl)) (DE.toA Zk)) Zf))))) (Z4 (te:=tC .non) (DE.toA (Zh (i:=5) rfl)) (DE.toA Zk)))
   (QR (i:=3) rfl rfl (DE.PF (DE.grd (Z4 (te:=tC .non) (DE.toA (Zh (i:=5) rfl)) (DE.toA Zk))))))
   ZH) rfl rfl rfl rfl)) rfl rfl rfl rfl))
   (Zj1 (j:=2) (Vx (i:=3) rfl) rfl))), ?_⟩
 refine Pm.refM2 ZnQ ?_
 rintro⟨lv,Q,bs,vs⟩ (hp:NlP lv Q bs vs) a b' xs e
 cases e
 simp only[ZnQ]
 have hq:=hp.hq
 have hz:=hp.sz
 walk_at "pd"
 simp only[ins,Zmq]
 walk_at "pd"
 generalize hw:Uo _ _ _=W
 obtain⟨ρ',rfl,v,w,rfl⟩:=ZF hw (fun i ρ=>∃v w,ρ=[.lst (lv.map Jd),.lst (Q.map PV.int),.box (some a) (.dt ((lvB Q (lv.take i) ([],bs,vs)).2.1.map tI)) (lvB Q (lv.take i) ([],bs,vs)).2.2,.lst ((lvB Q (lv.take i) ([],bs,vs)).1.map Jd),v,w]) ⟨_,_,rfl⟩ (by
  rintro i x ρ hx ⟨v,w,rfl⟩
  rw[Ztf] at hx
  obtain⟨b,hb,rfl⟩:=Zt1.mp hx
  have hi:i<lv.length:=(ZsR.mp hb).1
  obtain⟨b1,b2⟩:=hp.hl b (ZsQ hb)
  have hs:lvB Q (lv.take (i+1)) ([],bs,vs)=(Uw Q b).foldl (stB b) (lvB Q (lv.take i) ([],bs,vs)):=by
   unfold lvB
   rw[Zuo,hb,Zum];rfl
  rw[hs]
  have I0:NlI (bs.length+(lv.take i).length*Q.length) (lvB Q (lv.take i) ([],bs,vs)):=NlI.lv ⟨hp.ln,ZsU _,Ztp _⟩
  have hsz:bs.length+(lv.take i).length*Q.length+Q.length<=900000:=by
   have h1:(lv.take i).length=i:=by rw[Ztk];omega
   rw[h1]
   have h2:(i+1)*Q.length<=lv.length*Q.length:=Nat.mul_le_mul_right _ hi
   rw[ZuM] at h2
   omega
  generalize lvB Q (lv.take i) ([],bs,vs)=st0 at I0
  walk_at "pd"
  rw[Qv]
  walk_at "pd"
  rw[ZoT ⟨b1,b2,hq⟩]
  walk_at "pd"
  have hsl:=Zdi Q b
  generalize Uw Q b=SL at hsl
  generalize hw2:Uo _ _ _=W2
  obtain⟨ρ2,rfl,v2,rfl⟩:=ZF hw2 (fun n ρ=>∃v,ρ=[.lst (lv.map Jd),.lst (Q.map PV.int),.box (some a) (.dt (((SL.take n).foldl (stB b) st0).2.1.map tI)) ((SL.take n).foldl (stB b) st0).2.2,.lst (((SL.take n).foldl (stB b) st0).1.map Jd),Jd b,v]) ⟨_,rfl⟩ (by
   rintro n x ρ hx ⟨v,rfl⟩
   rw[Ztf] at hx
   obtain⟨y,hy,rfl⟩:=Zt1.mp hx
   have hn:n<SL.length:=(ZsR.mp hy).1
   have hs2:(SL.take (n+1)).foldl (stB b) st0=stB b ((SL.take n).foldl (stB b) st0) y:=by
    rw[Zuo,hy,Zum];rfl
   rw[hs2]
   have I:=NlI.fold (x:=b) (L:=SL.take n) I0
   have htl:(SL.take n).length<=Q.length:=by rw[Ztk];omega
   generalize (SL.take n).foldl (stB b) st0=st at I
   obtain⟨i1,i2,i3⟩:=I
   unfold ZgH
   rw[Zim]
   walk_at "pd"
   rw[Zd0]
   walk_at "pd"
   unfold stB
   by_cases c:y.2∈st.2.1
   ·obtain⟨z,hz⟩:=Zbc (ks:=st.2.1.map tI) (xs:=st.2.2) (by rw[ZsV];omega) (VZ.mpr c)
    rw[hz,if_pos c]
    walk_at "pd"
    exact Vg ⟨_,rfl⟩
   ·rw[Qx (fun z=>c (VZ.mp z)),if_neg c]
    walk_at "pd"
    rw[Zlm]
    walk_at "pd"
    rw[Zft (by simp only[PV.flat,PV.flats,Vh,Bool.and_self]) (by omega),Zbs (fun z=>c (VZ.mp z)),Zbr (fun z=>c (VZ.mp z))]
    walk_at "pd"
    rw[Qv]
    walk_at "pd"
    rw[Vt (by rw[ZsV];omega)]
    walk_at "pd"
    refine Vg ⟨.tup [.int y.1,Jd y.2], ?_⟩
    rw[ZtI,ZtI]
    rfl)
  walk_at "pd"
  refine Vg ⟨Jd b,v2, ?_⟩
  rw[ZsV,ZtV])
 walk_at "pd"
 rw[ZsV,ZtV]
 rw[ZgO]
 rfl
theorem ZoU {lv:List (List Int)}{Q:List Int}{bs:List (List Int)}{vs:List PV} (h:NlP lv Q bs vs):ZnQ.fnM (.box none (.dt (bs.map tI)) vs) [.lst (lv.map Jd),.lst (Q.map PV.int)]=.ok (.tup [.lst ((lvB Q lv ([],bs,vs)).1.map Jd),.box none (.dt ((lvB Q lv ([],bs,vs)).2.1.map tI)) (lvB Q lv ([],bs,vs)).2.2]):=Pm.fn_eq ZnQ (lv,Q,bs,vs) h (fun(a:List (List Int)×List Int×List (List Int)×List PV) e=>by
 have e':a=(lv,Q,bs,vs):=by
  simp only[ZnQ,List.cons.injEq,PV.lst.injEq,PV.box.injEq,and_true] at e
  obtain⟨e1,e2,e3⟩:=e
  refine Prod.ext (Ut e2) (Prod.ext (Jh e3) (Prod.ext (ZeG ?_) e1.2.2))
  have:=e1.2.1
  injection this
 rw[e'])
noncomputable def Zn4:Pm:=⟨List (List Int),fun ts=>[.lst (ts.map Jd)],fun ts=>(∀t∈ts,t≠[]/\t.length<=1000)/\ts.length<=100000,fun ts=>.ok (.lst ((V3 ts).map Jy))⟩
theorem Zrf (T:Txt K mg) {f:Addr}{fd:FuncData} (F:Fun K "rising_boards" "rising_boards" Zn9 f fd):JT P w K mg base CX0 1 f fd ["boards"] (spF K 1 .F W0 Zn4.fn):=by
 refine F.okP ZpK rfl rfl (fun cdv A outer s H E hr=>?_)
 have hu:=hr.units
 refine⟨_,_,⟨[],[],[],.F⟩,rfl,(Zj (Z0 (Qo (ZT (K:=K) (Zo (ZcK (K:=K)) rfl T.z_sorted ZbU (Za (pv 0) Ze))) (fun _ _ _ _=>(ZC (J3 (K:=K)) rfl T.z_list J4 (Za (pv 1) Ze))) ZpK.nd rfl))),
   (Jm (VU (DI.c (Jz (DE.FZ (ZhC (Zb (Zc (i:=0) (m:=.S) rfl (by decide)) Zf))))) (V0 (Zb (Zc (i:=1) (m:=.S) rfl (by decide)) Zf)))), ?_⟩
 refine Pm.ref Zn4 (g:=fun xs=>_) ?_
 rintro(ts:List (List Int)) ⟨h1,h2⟩
 simp only[Zn4]
 walk_at "pd"
 have hl:(V3 ts).length=ts.length:=(ZA ts).length_eq
 rw[Zfm ⟨fun t ht=>(h1 t ht).1,by omega⟩,Zih Vh (by omega)]
 walk_at "pd"
 rw[ZaN (g:=fun x=>match x with|.tup ys=>.lst ys|_=>.non) (fun x hx=>by
  obtain⟨t,ht,rfl⟩:=Ztm.mp hx
  have:=(h1 t ((ZA ts).mem_iff.mp ht)).2
  unfold Jd
  show Zcp [.tup (t.map PV.int)]=_
  simp only[Zcp]
  rw[QI (by omega)])]
 walk_at "pd"
 rw[Zt6];rfl
theorem Zot {ts:List (List Int)} (h:(∀t∈ts,t≠[]/\t.length<=1000)/\ts.length<=100000):Zn4.fn [.lst (ts.map Jd)]=.ok (.lst ((V3 ts).map Jy)):=Pm.fn_eq Zn4 ts h (fun(a:List (List Int)) e=>by
 have e':a=ts:=by
  simp only[Zn4,List.cons.injEq,PV.lst.injEq,and_true] at e
  exact Ut e
 rw[e'])
theorem Qe:Zn4.calm:=fun a q h=>by (simp only[Zn4] at h;cases h)
theorem ZeB.lvl {n:Nat}{s:Int}{P b:List Int} (F:ZeB n s P b) (i:Nat):(wk P b i).1.length<=1000:=by
 have hle:=F.le i
 cases i with
 |zero=>simp[wk]
 |succ i =>
  have:=Ur P b i
  rw[this,Zt7] at hle
  omega
theorem Zdy {b:List Int}{v:PV}:Zdz (Jd b) v=.ok (.box none (.dt [tI b]) [v]):=by
 rw[Za6]
 unfold Zdz
 simp only[VR]
theorem Zei {n:Nat} (h:n<=1000000):Qp [.int (n:Int)]=.ok (.lst ((Jc n).map PV.int)):=by
 rw[Zej ⟨decide_eq_true ⟨by omega,by omega⟩,by omega⟩]
 unfold Vr Jc
 simp only[ZtX,Int.mul_one,Ztr]
theorem Zbz {xs:List PV}{y:PV}:pIx (.lst (xs++[y])) (.int (-1))=.ok y:=by
 unfold pIx atI ixN
 simp only
 rw[if_neg (by decide),if_pos (by rw[Zt7,Zu2];omega)]
 simp only[Zt7,Zu2]
 rw[show (-1+((xs.length+1:Nat):Int)).toNat=xs.length by omega]
 simp only[Option.bind_some]
 rw[ZsY (ZsU _),Zu3]
 rfl
structure Lw (b o:List Int):Prop where
 b1:Vm b=true
 b2:Vm o=true
 ln:b.length=o.length
 sm:b.sum=o.sum
 few:cbN b.length b.sum<=1000
noncomputable def lwP (b o:List Int):List Int:=(ZiW ((wk (Jc b.length) b (goN (Jc b.length) b o)).2.1.map tI) (wk (Jc b.length) b (goN (Jc b.length) b o)).2.2 ((wk (Jc b.length) b (goN (Jc b.length) b o)).2.1.length+1) o).reverse
noncomputable def lwL (b o:List Int):List (List (List Int)):=(List.range (goN (Jc b.length) b o+1)).map fun i=>V3 (wk (Jc b.length) b i).1
noncomputable def ZnZ:Pm:=⟨List Int×List Int,fun a=>[.lst (a.1.map PV.int),.lst (a.2.map PV.int)],fun a=>Lw a.1 a.2,fun a=>.ok (.tup [.lst ((lwP a.1 a.2).map ZcC),.lst ((lwL a.1 a.2).map llQ)])⟩
theorem Lw.fw {b o:List Int} (h:Lw b o):ZeB b.length b.sum (Jc b.length) b/\Rch (Jc b.length) b o/\ZcV b/\ZcV o:=by
 have B:=Vl.mp h.b1
 have O:=Vl.mp h.b2
 have l1:=B.lo
 have l2:=B.hi
 refine⟨⟨by omega,fun p hp=>UD.mp hp,⟨rfl,B.nn,rfl⟩,h.few⟩,ZjK (by omega) (by omega) B.sm ⟨rfl,B.nn,rfl⟩ ⟨h.ln.symm,O.nn,h.sm.symm⟩,B,O⟩
theorem ZrU (T:Txt K mg) {f:Addr}{fd:FuncData} (F:Fun K "least_way" "least_way" Zoj f fd):JT P w K mg base (CX1 P w) 6 f fd ["board", "other"] (spF K 2 .F (W1 K) ZnZ.fn):=by
 have ZqH:=Zhj (P:=P) (w:=w) (base:=base) T.ZrI Zr8 (fun F=>Zr3 T F)
 have ZrQ:=Zhj (P:=P) (w:=w) (base:=base) T.ZrJ Zr9 (fun F=>Zr4 T F)
 have ZqG:=Zhj (P:=P) (w:=w) (base:=base) T.ZqF Zq7 (fun F=>Zq1 T F)
 have ZsF:=UY (P:=P) (w:=w) (base:=base) T.ZsD Zs6 (fun F=>Zsz T F)
 have Zsf:=UY (P:=P) (w:=w) (base:=base) T.ZrY ZrN (fun F=>ZrF T F)
 have Zrx:=UY (P:=P) (w:=w) (base:=base) T.Zrr Zrh (fun F=>Zrf T F)
 refine F.okX Zoi rfl rfl (fun cdv A outer s H E hr=>?_)
 have hu:=hr.units
 refine⟨_,_,⟨[],[],[],.F⟩,rfl,(Zd (Jq (VN ZqH (hr.mono (by decide)) rfl ZaJ (Za (pv 0) Ze)))
   (Zd (Jq (VN ZqH (hr.mono (by decide)) rfl ZaJ (Za (pv 1) Ze)))
   (Zd (Jq (VN ZrQ (hr.mono (by decide)) rfl ZaJ (Za (pv 0) (Za (pv 1) Ze))))
   (Zd (Jq (VN ZqG (hr.mono (by decide)) rfl ZaJ (Za (pv 0) Ze)))
   (Zd (Z5 (i:=2) Zoi.nd rfl (by first|exact Or.inl rfl|exact Or.inr rfl) (ZC (ZbO rfl) rfl T.z_list J4 (Za (ZC Zgs rfl T.z_range ZhM (Za (Zo (Z3 (K:=K)) rfl T.z_len Jk (Za (pv 0) Ze)) Ze)) Ze)))
   (Zd (Z5 (i:=3) Zoi.nd rfl (by first|exact Or.inl rfl|exact Or.inr rfl) (ZC (Jn (K:=K)) rfl T.z_tuple JR (Za (pv 1) Ze)))
   (Zd (Z5 (i:=4) Zoi.nd rfl (by first|exact Or.inl rfl|exact Or.inr rfl) (JV (Za (JV (Za (ZC (Jn (K:=K)) rfl T.z_tuple JR (Za (pv 0) Ze)) Ze)) Ze)))
   (Zd (Z5 (i:=5) Zoi.nd rfl (by first|exact Or.inl rfl|exact Or.inr rfl) (Zbv (hu1 hu) (ZC (Jn (K:=K)) rfl T.z_tuple JR (Za (pv 0) Ze)) Zbu))
   (Zd (PS.nox (Zdr PassesOwn.never (Zfd (QD (hu1 hu) (pv 3) (pv 5))) (Zj (Jq (ZaI PySem.F.plainAttrs_list PySem.F.slot_list_append PySem.F.type_list_append Jr (pv 4) (Za (Zy Zsf (hr.mono (by decide)) rfl (Za (ZI (Zq (K:=K)) (pv 4) (Zk6 ZhT Zl) (fun _ _=>rfl)) (Za (pv 2) (Za (pv 5) Ze)))) Ze))))))
   (Zj (Z0 (Uy (Za (Zy ZsF (hr.mono (by decide)) rfl (Za (pv 3) (Za (pv 5) Ze))) (Za (VM (ZT (K:=K) (pv 4)) (VD Zoi.nd) (fun _ _ _ _=>Zak) (fun _ _ _ _=>(Zy Zrx (hr.mono (by decide)) rfl (Za (pv 6) Ze))) hv1 Zoi.nd rfl) Ze)))))))))))))),
   (Zm (Γm:=[.S,.S,.U,.U,.U,.U]) (ZaT (DE.toA (ZlV (Zi Zv) (Zb (Zc (i:=0) (m:=.S) rfl (by decide)) Zf))))
   (Zm (Γm:=[.S,.S,.U,.U,.U,.U]) (ZaT (DE.toA (ZlV (Zi Zv) (Zb (Zc (i:=1) (m:=.S) rfl (by decide)) Zf))))
   (Zm (Γm:=[.S,.S,.U,.U,.U,.U]) (ZaT (DE.toA (ZlV (Zi (Zi Zv)) (Zb (Zc (i:=0) (m:=.S) rfl (by decide)) (Zb (Zc (i:=1) (m:=.S) rfl (by decide)) Zf)))))
   (Zm (Γm:=[.S,.S,.U,.U,.U,.U]) (ZaT (DE.toA (ZlV (Zi Zv) (Zb (Zc (i:=0) (m:=.S) rfl (by decide)) Zf))))
   (Zm (Γm:=[.S,.S,.O,.U,.U,.U]) (Je (i:=2) (Ze1 (Zb (DE.toA (Jj (Zb (Zc (i:=0) (m:=.S) rfl (by decide)) Zf))) Zf)) (by decide))
   (Zm (Γm:=[.S,.S,.O,.P,.U,.U]) (ZO (i:=3) (DE.grd (Vy (Zb (Zc (i:=1) (m:=.S) rfl (by decide)) Zf))) (by decide))
   (Zm (Γm:=[.S,.S,.O,.P,.O,.U]) (Je (i:=4) (Vz (ZM (Vz (ZM (DE.PF (DE.grd (Vy (Zb (Zc (i:=0) (m:=.S) rfl (by decide)) Zf)))) J0)) J0)) (by decide))
   (Zm (Γm:=[.S,.S,.O,.P,.O,.O]) (Je (i:=5) (ZbL (Vy (Zb (Zc (i:=0) (m:=.S) rfl (by decide)) Zf)) ZdM) (by decide))
   (Zm (Γm:=[.S,.S,.O,.P,.O,.O]) (ZdI (Γ:=[.S,.S,.O,.P,.O,.O]) (Zbf (DE.toA (QT (DE.toA (Zh (i:=3) rfl)) (Zc (i:=5) (m:=.O) rfl (by decide)))))
   (Zj3 (l:=4) rfl (by decide) (Zj5 (i:=5) rfl (Zi (Zi Zv)) (ZdQ (Zl1 (ZfZ (l:=4) (md:=.O) rfl (by decide)) Zj6) (ZdQ (ZfZ (l:=2) (md:=.O) rfl (by decide)) (ZhH ZjC))))))
   (Jm (ZaU (ZM (Zna (Zi (Zi Zv)) (Pm.calm_fn Zeg) (Zb (DE.toA (Zh (i:=3) rfl)) (Zb (Zc (i:=5) (m:=.O) rfl (by decide)) Zf))) (ZM (QU (i:=4) rfl ZbJ (Zna (Zi Zv) (Pm.calm_fn Qe) (Zb (Zc (i:=6) (m:=.S) rfl (by decide)) Zf))) J0))))))))))))), ?_⟩
 refine Pm.ref ZnZ (g:=fun xs=>_) ?_
 rintro⟨b,o⟩ (h:Lw b o)
 simp only[ZnZ]
 obtain⟨F,R,B,O⟩:=h.fw
 have l1:=B.lo
 have l2:=B.hi
 have e1:=h.ln
 walk_at "pd"
 rw[Zow (by omega),h.b1]
 walk_at "pd"
 rw[Zow (by omega),h.b2]
 walk_at "pd"
 rw[ZoF ⟨by omega,by omega⟩,show ZjR b o=none from if_pos ⟨h.ln,h.sm⟩]
 walk_at "pd"
 rw[ZnR ⟨⟨by omega,by omega⟩,B.sm⟩,show Zlt b=none from if_neg (by have:=h.few;omega)]
 walk_at "pd"
 rw[Zei (by omega)]
 walk_at "pd"
 rw[show UX [PV.lst (o.map PV.int)]=.ok (Jd o) from rfl]
 walk_at "pd"
 rw[Qv]
 walk_at "pd"
 rw[show UX [PV.lst (b.map PV.int)]=.ok (Jd b) from rfl]
 walk_at "pd"
 rw[Qv]
 walk_at "pd"
 rw[show UX [PV.lst (b.map PV.int)]=.ok (Jd b) from rfl]
 walk_at "pd"
 rw[Zdy]
 walk_at "pd"
 obtain⟨g1,g2,g3,g4,g5⟩:=ZfN F R
 unfold lwP lwL
 have hpl:(Jc b.length).length=b.length:=by simp[Jc]
 have hPm:∀p∈Jc b.length,0<=p/\p<(b.length:Int):=fun p hp=>UD.mp hp
 generalize Jc b.length=P at F R g1 g2 g3 g4 g5 hpl hPm
 have hlvl:=F.lvl
 generalize hw:Us _ _ _=W
 obtain⟨ρ',rfl,rfl⟩:=Qz hw (goN P b o) (fun i ρ=>ρ=[.lst (b.map PV.int),.lst (o.map PV.int),.lst (P.map PV.int),Jd o,.lst ((List.range (i+1)).map fun k=>.lst ((wk P b k).1.map Jd)),.box none (.dt ((wk P b i).2.1.map tI)) (wk P b i).2.2]) rfl (by
  rintro i ρ hi rfl
  have W:=JZ P b i
  have hle:=F.le i
  have hsub:=hlvl i
  constructor
  ·walk_at "pd"
   rw[Zd0,Qx (fun z=>g3 i hi (VZ.mp z))]
   rfl
  ·walk_at "pd"
   rw[show pIx (.lst ((List.range (i+1)).map fun k=>PV.lst ((wk P b k).1.map Jd))) (.int (-1))=.ok (.lst ((wk P b i).1.map Jd)) by
    rw[Zux,ZtI]
    exact Zbz]
   walk_at "pd"
   rw[ZhL (ZoU (lv:=(wk P b i).1) (Q:=P) (bs:=(wk P b i).2.1) (vs:=(wk P b i).2.2) ⟨fun x hx=>by
    have Bx:=(W.re x (W.sub x hx)).bs F.hP F.hb
    exact⟨fun p hp=>by have:=F.hP p hp;have:=Bx.1;omega,by have:=Bx.1;omega⟩,by omega,W.ln,by
    have:(wk P b i).1.length*P.length<=1000*24:=Nat.mul_le_mul hsub (by omega)
    omega,W.fl⟩)]
   walk_at "pd"
   rw[Vt (by simp;omega)]
   walk_at "pd"
   refine Vg ?_
   rw[Zux (n:=i+1),ZtI]
   rfl) (by
  rintro ρ rfl
  walk_at "pd"
  rw[Zd0]
  obtain⟨z,hz⟩:=Zbc (ks:=(wk P b (goN P b o)).2.1.map tI) (xs:=(wk P b (goN P b o)).2.2) (by rw[ZsV];exact(JZ P b _).ln.symm) (VZ.mpr g2)
  rw[hz]
  rfl)
 walk_at "pd"
 obtain⟨ys,ps,C,c0,_⟩:=ZaY (P:=P) (b:=b) (goN P b o) (goN P b o) (ZsU _) g4
 have hkl:goN P b o<=(wk P b (goN P b o)).2.1.length:=by
  have:=ZcZ P b (goN P b o) g5
  omega
 rw[Zqf ⟨_,ys,ps,C,c0,by rw[ZsV];exact hkl,by omega⟩,ZsV]
 walk_at "pd"
 rw[ZfS (q:=fun k=>PV.lst ((wk P b k).1.map Jd)) (p:=fun _=>true) (g:=fun k=>llQ (V3 (wk P b k).1)) (fun k hk=>by
  walk_at "pd"
  rw[Zot ⟨fun t ht=>by
   have Bx:=((JZ P b k).re t ((JZ P b k).sub t ht)).bs F.hP F.hb
   exact⟨fun z=>by have:=Bx.1;rw[z] at this;simp at this;omega,by have:=Bx.1;omega⟩,by have:=hlvl k;omega⟩]
  rfl),Zuq.mpr (fun _ _=>rfl)]
 walk_at "pd"
 rw[Zt6]
 rfl
theorem ZoL {b o:List Int} (h:Lw b o):ZnZ.fn [.lst (b.map PV.int),.lst (o.map PV.int)]=.ok (.tup [.lst ((lwP b o).map ZcC),.lst ((lwL b o).map llQ)]):=Pm.fn_eq ZnZ (b,o) h fun(a:List Int×List Int) e=>by (simp only[ZnZ,List.cons.injEq,PV.lst.injEq,PV.int.injEq,PV.str.injEq,PV.bl.injEq,PV.tup.injEq,Jb,and_true] at e ⊢;first|(simp only[e];done)|(subst e;rfl)|(rw[e]))
noncomputable def JC (L:List (List Int)) (k:Nat):List (List Int):=(List.range L.length).map fun i=>if i<k then L.getD i []++[0] else L.getD i []
theorem JB (L:List (List Int)) (k:Nat):(JC L k).length=L.length:=by simp[JC]
theorem VJ {L:List (List Int)}{k i:Nat} (h:i<L.length):(JC L k).getD i []=if i<k then L.getD i []++[0] else L.getD i []:=by simp[JC,h]
theorem Zlu {a b:List (List Int)} (hl:a.length=b.length) (h:∀i,i<a.length->a.getD i []=b.getD i []):a=b:=by
 refine ZuA hl fun i h1 h2=>?_
 have:=h i h1
 rw[ZsO,ZsO,ZsP h1,ZsP h2] at this
 exact this
theorem Zg2 (L:List (List Int)):JC L 0=L:=Zlu (JB L 0) fun i hi=>by
 rw[JB] at hi
 rw[VJ hi,if_neg (by omega)]
theorem ZjJ {L:List (List Int)}{k:Nat} (h:k<L.length):(JC L k).set k ((JC L k).getD k []++[0])=JC L (k+1):=Zlu (by simp[JB]) fun i hi=>by
 rw[ZtH,JB] at hi
 rw[VJ hi]
 by_cases c:k=i
 ·subst c
  rw[if_pos (by omega),ZsO,Zto (by rw[JB];exact h)]
  show (JC L k).getD k []++[0]=_
  rw[VJ h,if_neg (by omega)]
 ·rw[ZsO,Ztj c,<- ZsO,VJ hi]
  by_cases d:i<k
  ·rw[if_pos d,if_pos (by omega)]
  ·rw[if_neg d,if_neg (by omega)]
theorem Zif {f:PV->Rr PV}{Ls:List (List (List Int))}{k:Nat}{cs:List Int}{q:List (List Int)} (h:k<Ls.length) (hq:pGo f (llQ (Ls.getD k [])) cs=.ok (llQ q)):pGo f (.lst (Ls.map llQ)) ((k:Int)::cs)=.ok (.lst ((Ls.set k q).map llQ)):=by
 have e1:ixN (Ls.map llQ).length (k:Int)=some k:=by
  unfold ixN
  rw[if_pos (by omega),if_pos (by rw[ZsV];omega)];simp
 have e2:(Ls.map llQ).getD k .non=llQ (Ls.getD k []):=by
  rw[ZsO,Ztf,ZsP h,ZsO,ZsP h];rfl
 simp only[pGo,e1,e2]
 rw[hq]
 simp only[Rr.bind_ok,List.map_set]
theorem ZkN {L:List (List Int)}{k:Nat}{j:Int} (h:k<L.length) (hq:(L.getD k []).length<1000000):pGo (fun z=>pApp z (.int j)) (.lst (L.map Jy)) [(k:Int)]=.ok (.lst ((L.set k (L.getD k []++[j])).map Jy)):=by
 have e1:ixN (L.map Jy).length (k:Int)=some k:=by
  unfold ixN
  rw[if_pos (by omega),if_pos (by rw[ZsV];omega)];simp
 have e2:(L.map Jy).getD k .non=.lst ((L.getD k []).map PV.int):=by
  rw[ZsO,Ztf,ZsP h,ZsO,ZsP h];rfl
 simp only[pGo,e1,e2]
 rw[Zb1 hq]
 simp only[Rr.bind_ok,List.map_set]
 rfl
noncomputable abbrev LLL:=List (List (List Int))
noncomputable def upA (L:LLL) (k j:Nat):LLL:=(List.range L.length).map fun i=>if i<k then JC (L.getD i []) (L.getD i []).length++[[]] else if i=k then JC (L.getD i []) j else L.getD i []
theorem JD (L:LLL) (k j:Nat):(upA L k j).length=L.length:=by simp[upA]
theorem Ue {L:LLL}{k j i:Nat} (h:i<L.length):(upA L k j).getD i []=if i<k then JC (L.getD i []) (L.getD i []).length++[[]] else if i=k then JC (L.getD i []) j else L.getD i []:=by simp[upA,h]
theorem Zjv {a b:LLL} (hl:a.length=b.length) (h:∀i,i<a.length->a.getD i []=b.getD i []):a=b:=by
 refine ZuA hl fun i h1 h2=>?_
 have:=h i h1
 rw[ZsO,ZsO,ZsP h1,ZsP h2] at this
 exact this
theorem Zme (L:LLL):upA L 0 0=L:=Zjv (JD L 0 0) fun i hi=>by
 rw[JD] at hi
 rw[Ue hi,if_neg (by omega)]
 split
 ·rw[Zg2]
 ·rfl
theorem ZeS {L:LLL}{k i:Nat}{q:List (List Int)} (h:i<L.length):(L.set k q).getD i []=if i=k then q else L.getD i []:=by
 by_cases c:i=k
 ·subst c
  rw[if_pos rfl,ZsO,Zto h];rfl
 ·rw[if_neg c,ZsO,Ztj (fun e=>c e.symm),<- ZsO]
theorem Zmd {L:LLL}{k j:Nat} (h:k<L.length) (hj:j<(L.getD k []).length):(upA L k j).set k (JC (L.getD k []) (j+1))=upA L k (j+1):=Zjv (by simp[JD]) fun i hi=>by
 rw[ZtH,JD] at hi
 rw[ZeS (by rw[JD];exact hi),Ue hi,Ue hi]
 by_cases c:i=k
 ·subst c
  rw[if_pos rfl,if_neg (by omega),if_pos rfl]
 ·rw[if_neg c,if_neg c,if_neg c]
theorem Zmc {L:LLL}{k:Nat} (h:k<L.length):(upA L k (L.getD k []).length).set k (JC (L.getD k []) (L.getD k []).length++[[]])=upA L (k+1) 0:=Zjv (by simp[JD]) fun i hi=>by
 rw[ZtH,JD] at hi
 rw[ZeS (by rw[JD];exact hi),Ue hi,Ue hi]
 by_cases c:i=k
 ·subst c
  rw[if_pos rfl,if_pos (by omega)]
 ·rw[if_neg c,if_neg c]
  by_cases d:i<k
  ·rw[if_pos d,if_pos (by omega)]
  ·rw[if_neg d,if_neg (by omega)]
   split
   ·rw[Zg2]
   ·rfl
structure ZmJ (L:LLL):Prop where
 l:L.length<=2000
 q:∀q∈L,q.length<=1000
 b:∀q∈L,∀x∈q,x.length<=1000
noncomputable def Zof:Pm:=⟨LLL,fun L=>[.lst (L.map llQ),.lst (L.map llQ)],fun L=>ZmJ L,fun _=>.ok (.bl true)⟩
theorem ZrH (T:Txt K mg) {f:Addr}{fd:FuncData} (F:Fun K "_law_apart" "_law_apart" ZnY f fd):JT P w K mg base CX0 1 f fd ["levels", "kept"] (spC K 2 Zof.fn):=by
 refine F.okC (n:=1) Zp3 rfl rfl (fun cdv A outer s H E hr=>?_)
 have hu:=hr.units
 refine⟨_,_,⟨[],[],[],.P⟩,rfl,(Zd (Jt PassesOwn.never rfl (Jf rfl T.z_range (Za (Zo (Z3 (K:=K)) rfl T.z_len Jk (Za (pv 1) Ze)) Ze)) (ZN (i:=2) Zp3.nd rfl (by first|exact Or.inl rfl|exact Or.inr rfl)) (Zd (Jt PassesOwn.never rfl (Jf rfl T.z_range (Za (Zo (Z3 (K:=K)) rfl T.z_len Jk (Za (ZI (Zq (K:=K)) (pv 1) (pv 2) (fun _ _=>rfl)) Ze)) Ze)) (ZN (i:=3) Zp3.nd rfl (by first|exact Or.inl rfl|exact Or.inr rfl)) (Zd (J5 (Z9 (Vf (K:=K) hu) (ZI (Zq (K:=K)) (ZI (Zq (K:=K)) (pv 0) (pv 2) (fun _ _=>rfl)) (pv 3) (fun _ _=>rfl)) (ZI (Zq (K:=K)) (ZI (Zq (K:=K)) (pv 1) (pv 2) (fun _ _=>rfl)) (pv 3) (fun _ _=>rfl)) (ZK _)) (Zj (Z0 Vs)) ZB)
   (Zj (Jq (ZaI PySem.F.plainAttrs_list PySem.F.slot_list_append PySem.F.type_list_append Jr (ZI (Zq (K:=K)) (ZI (Zq (K:=K)) (pv 0) (pv 2) (fun _ _=>rfl)) (pv 3) (fun _ _=>rfl)) (Za Zl Ze))))))
   (Zj (Jq (ZaI PySem.F.plainAttrs_list PySem.F.slot_list_append PySem.F.type_list_append Jr (ZI (Zq (K:=K)) (pv 0) (pv 2) (fun _ _=>rfl)) (Za (JV Ze) Ze))))))
   (Zd (Jq (ZaI PySem.F.plainAttrs_list PySem.F.slot_list_append PySem.F.type_list_append Jr (pv 0) (Za (JV Ze) Ze)))
   (Zj (Z0 Vs)))),
   (Zm (Γm:=[.O,.S,.U,.U]) (J9 (Γl:=[.O,.S,.U,.U]) (JQ (Zb (DE.toA (Jj (Zb (Zc (i:=1) (m:=.S) rfl (by decide)) Zf))) Zf)) rfl (ZdL (i:=2) (by decide))
   (DS.out (Y:=⟨[.O,.S,.P,.U],[.O,.S,.U,.U],[.O,.S,.U,.U],.P⟩) (Y':=⟨[.O,.S,.U,.U],[.O,.S,.U,.U],[.O,.S,.U,.U],.P⟩) (Zm (Γm:=[.O,.S,.P,.U]) (J9 (Γl:=[.O,.S,.P,.U]) (JQ (Zb (DE.toA (Jj (Zb (Z4 (te:=tC .non) (Zc (i:=1) (m:=.S) rfl (by decide)) (DE.toA (Zh (i:=2) rfl))) Zf))) Zf)) rfl (ZdL (i:=3) (by decide))
   (DS.out (Y:=⟨[.O,.S,.P,.P],[.O,.S,.P,.U],[.O,.S,.P,.U],.P⟩) (Y':=⟨[.O,.S,.P,.U],[.O,.S,.P,.U],[.O,.S,.P,.U],.P⟩) (Zm (Γm:=[.O,.S,.P,.P]) (JG (Z7 (DE.toA (Js (g:=(!·)) (Z4 (te:=tC .non) (Z4 (te:=tC .non) (Zc (i:=0) (m:=.O) rfl (by decide)) (DE.toA (Zh (i:=2) rfl))) (DE.toA (Zh (i:=3) rfl))) (Z4 (te:=tC .non) (Z4 (te:=tC .non) (Zc (i:=1) (m:=.S) rfl (by decide)) (DE.toA (Zh (i:=2) rfl))) (DE.toA (Zh (i:=3) rfl))))))
   (Z8 V7)
   ZH)
   (Ze0 (i:=0) rfl (Zc7 (l:=3) (m:=.P) rfl (by decide) (Zc7 (l:=2) (m:=.P) rfl (by decide) ZfU)))) rfl rfl rfl rfl))
   (Zc6 (i:=0) rfl (Zc7 (l:=2) (m:=.P) rfl (by decide) ZfU))) rfl rfl rfl rfl))
   (Zm (Γm:=[.O,.S,.U,.U]) (QR (i:=0) rfl rfl (Vz J0))
   (Z8 V7))), ?_⟩
 refine Pm.ref Zof (g:=fun xs=>_) ?_
 rintro(L:LLL) (h:ZmJ L)
 simp only[Zof]
 have hl:=h.l
 walk_at "pd"
 rw[VO,ZsV]
 walk_at "pd"
 generalize hw:Uo _ _ _=W
 obtain⟨ρ',rfl,v,w,rfl⟩:=ZF hw (fun i ρ=>∃v w,ρ=[.lst ((upA L i 0).map llQ),.lst (L.map llQ),v,w]) ⟨_,_,by rw[Zme]⟩ (by
  rintro i x ρ hx ⟨v,w,rfl⟩
  obtain⟨hi,rfl⟩:=JF hx
  have hi2:i<L.length:=by omega
  have hm:L.getD i []∈L:=by rw[ZsO,ZsP hi2];exact Zup _
  have hq:=h.q _ hm
  have hb:=h.b _ hm
  walk_at "pd"
  rw[Zbx (q:=llQ) (d:=[]) (by omega) (by omega)]
  simp only[ZtX,Ztr]
  rw[show llQ (L.getD i [])=.lst ((L.getD i []).map Jy) from rfl]
  walk_at "pd"
  rw[VO,ZsV]
  walk_at "pd"
  generalize hw2:Uo _ _ _=W2
  obtain⟨ρ2,rfl,v2,rfl⟩:=ZF hw2 (fun j ρ=>∃v,ρ=[.lst ((upA L i j).map llQ),.lst (L.map llQ),.int (i:Int),v]) ⟨_,rfl⟩ (by
   rintro j x ρ hx ⟨v,rfl⟩
   obtain⟨hj,rfl⟩:=JF hx
   have hj2:j<(L.getD i []).length:=by omega
   have ug:(upA L i j).getD i []=JC (L.getD i []) j:=by rw[Ue hi2,if_neg (ZtF i),if_pos rfl]
   have ag:(JC (L.getD i []) j).getD j []=(L.getD i []).getD j []:=by rw[VJ hj2,if_neg (ZtF j)]
   have hbj:((L.getD i []).getD j []).length<=1000:=hb _ (by rw[ZsO (l:=L.getD i []),ZsP hj2];exact Zup _)
   walk_at "pd"
   rw[Zbx (q:=llQ) (d:=[]) (by omega) (by rw[JD];omega),Ztr,ug,show llQ (JC (L.getD i []) j)=.lst ((JC (L.getD i []) j).map Jy) from rfl]
   walk_at "pd"
   rw[Zbx (q:=Jy) (d:=[]) (by omega) (by rw[JB];omega)]
   walk_at "pd"
   rw[Zbx (q:=llQ) (d:=[]) (by omega) (by omega),Ztr,show llQ (L.getD i [])=.lst ((L.getD i []).map Jy) from rfl]
   walk_at "pd"
   rw[Zbx (q:=Jy) (d:=[]) (by omega) (by omega)]
   simp only[ZtX,Ztr]
   rw[ag,show Jy ((L.getD i []).getD j [])=.lst (((L.getD i []).getD j []).map PV.int) from rfl]
   walk_at "pd"
   rw[Zif (q:=JC (L.getD i []) (j+1)) (by rw[JD];exact hi2) (by
    rw[ug,show llQ (JC (L.getD i []) j)=.lst ((JC (L.getD i []) j).map Jy) from rfl,ZkN (by rw[JB];exact hj2) (by rw[ag];omega),ZjJ hj2];rfl),Zmd hi2 hj2]
   walk_at "pd"
   exact Vg ⟨_,rfl⟩)
  walk_at "pd"
  have ug:(upA L i (L.getD i []).length).getD i []=JC (L.getD i []) (L.getD i []).length:=by rw[Ue hi2,if_neg (ZtF i),if_pos rfl]
  simp only[Jl,Ztr]
  rw[Zif (q:=JC (L.getD i []) (L.getD i []).length++[[]]) (by rw[JD];exact hi2) (by
   rw[ug,show llQ (JC (L.getD i []) (L.getD i []).length)=.lst ((JC (L.getD i []) (L.getD i []).length).map Jy) from rfl]
   simp only[pGo]
   rw[Vt (by rw[ZsV,JB];omega)]
   unfold llQ
   rw[ZtI];rfl),Zmc hi2]
  walk_at "pd"
  exact Vg ⟨_,_,rfl⟩)
 walk_at "pd"
 rw[Vt (by rw[ZsV,JD];omega)]
 walk_at "pd"
theorem ZoW {L:LLL} (h:ZmJ L):Zof.fn [.lst (L.map llQ),.lst (L.map llQ)]=.ok (.bl true):=Pm.fn_eq Zof L h fun _ _=>rfl
noncomputable def Zob:Pm:=⟨List Int×Int,fun a=>[.lst (a.1.map PV.int),.int a.2],fun a=>0<=a.2/\a.2<a.1.length/\a.1.length<=1000,fun a=>.ok (Zcn (Va a))⟩
theorem Zrc (T:Txt K mg) {f:Addr}{fd:FuncData} (F:Fun K "_law_sown" "_law_sown" Zol f fd):JT P w K mg base CX0 1 f fd ["board", "pit"] (spF K 2 .F W0 Zob.fn):=by
 refine F.okP Zo4 rfl rfl (fun cdv A outer s H E hr=>?_)
 have hu:=hr.units
 refine⟨_,_,⟨[],[],[],.F⟩,rfl,(Zd (Z5 (i:=2) Zo4.nd rfl (by first|exact Or.inl rfl|exact Or.inr rfl) (Zo (Z3 (K:=K)) rfl T.z_len Jk (Za (pv 0) Ze)))
   (Zd (Z5 (i:=3) Zo4.nd rfl (by first|exact Or.inl rfl|exact Or.inr rfl) (ZI (Zq (K:=K)) (pv 0) (pv 1) (fun _ _=>rfl)))
   (Zd (Z5 (i:=4) Zo4.nd rfl (by first|exact Or.inl rfl|exact Or.inr rfl) (ZC (J3 (K:=K)) rfl T.z_list J4 (Za (pv 0) Ze)))
   (Zd (UW Zl (Zai (pv 4) (pv 1) Vq))
   (Zd (Jt PassesOwn.never rfl (Jf rfl T.z_range (Za (pv 2) Ze)) (ZN (i:=5) Zo4.nd rfl (by first|exact Or.inl rfl|exact Or.inr rfl)) (Zd (Z5 (i:=6) Zo4.nd rfl (by first|exact Or.inl rfl|exact Or.inr rfl) (Z6 Jg (Z6 J6 (Z6 J6 (pv 1) Zl) (pv 5)) (pv 2)))
   (Zj (UW (Z6 J6 (Z6 J6 (ZI (Zq (K:=K)) (pv 4) (pv 6) (fun _ _=>rfl)) (Z6 JW (pv 3) (pv 2))) (ZC Zgw rfl T.z_int ZdW (Za (UO Zeo (pv 5) (Z6 Jg (pv 3) (pv 2)) (ZK _)) Ze))) (Zai (pv 4) (pv 6) Vq)))))
   (Zj (Z0 (Uy (Za (pv 4) (Za (Z6 Jg (Z6 J6 (pv 1) (pv 3)) (pv 2)) Ze)))))))))),
   (Zm (Γm:=[.S,.S,.P,.U,.U,.U,.U]) (ZO (i:=2) (Jj (Zb (Zc (i:=0) (m:=.S) rfl (by decide)) Zf)) (by decide))
   (Zm (Γm:=[.S,.S,.P,.P,.U,.U,.U]) (ZO (i:=3) (DE.grd (Z4 (te:=tC .non) (Zc (i:=0) (m:=.S) rfl (by decide)) (Zc (i:=1) (m:=.S) rfl (by decide)))) (by decide))
   (Zm (Γm:=[.S,.S,.P,.P,.O,.U,.U]) (Je (i:=4) (V0 (Zb (Zc (i:=0) (m:=.S) rfl (by decide)) Zf)) (by decide))
   (Zm (Γm:=[.S,.S,.P,.P,.O,.U,.U]) (Vi (i:=4) rfl Zk (Zc (i:=1) (m:=.S) rfl (by decide)))
   (Zm (Γm:=[.S,.S,.P,.P,.O,.U,.U]) (J9 (Γl:=[.S,.S,.P,.P,.O,.U,.U]) (JQ (Zb (DE.toA (Zh (i:=2) rfl)) Zf)) rfl (ZdL (i:=5) (by decide))
   (DS.out (Y:=⟨[.S,.S,.P,.P,.O,.P,.P],[.S,.S,.P,.P,.O,.U,.U],[.S,.S,.P,.P,.O,.U,.U],.F⟩) (Y':=⟨[.S,.S,.P,.P,.O,.U,.U],[.S,.S,.P,.P,.O,.U,.U],[.S,.S,.P,.P,.O,.U,.U],.F⟩) (Zm (Γm:=[.S,.S,.P,.P,.O,.P,.P]) (ZO (i:=6) (Ji (DE.toA (JA (DE.toA (JA (Zc (i:=1) (m:=.S) rfl (by decide)) (DE.toA Zk))) (DE.toA (Zh (i:=5) rfl)))) (DE.toA (Zh (i:=2) rfl))) (by decide))
   (Vi (i:=4) rfl (JA (DE.toA (JA (Z4 (te:=tC .non) (Zc (i:=4) (m:=.O) rfl (by decide)) (DE.toA (Zh (i:=6) rfl))) (DE.toA (Qb (DE.toA (Zh (i:=3) rfl)) (DE.toA (Zh (i:=2) rfl)))))) (DE.toA (ZhB (Zb (DE.toA (Zgf (DE.toA (Zh (i:=5) rfl)) (DE.toA (Ji (DE.toA (Zh (i:=3) rfl)) (DE.toA (Zh (i:=2) rfl)))))) Zf)))) (DE.toA (Zh (i:=6) rfl)))) rfl rfl rfl rfl))
   (Jm (ZaU (ZM (Vx (i:=4) rfl) (ZM (DE.PF (Ji (DE.toA (JA (Zc (i:=1) (m:=.S) rfl (by decide)) (DE.toA (Zh (i:=3) rfl)))) (DE.toA (Zh (i:=2) rfl)))) J0))))))))), ?_⟩
 refine Pm.ref Zob (g:=fun xs=>_) ?_
 rintro⟨bs,p⟩ ⟨h0,h1,h2⟩
 simp only at h0 h1 h2
 simp only[Zob]
 walk_at "pd"
 rw[Zjg h0 h1]
 generalize hw:Uo _ _ _=W
 obtain⟨ρ',rfl,v,u,rfl⟩:=ZF hw (fun i ρ=>∃v u,ρ=[.lst (bs.map PV.int),.int p,.int bs.length,.int (bs.getD p.toNat 0),.lst ((tab bs.length (lsF bs p i)).map PV.int),v,u]) ⟨_,_,rfl⟩ (by
  rintro i x ρ hx ⟨v,u,rfl⟩
  obtain⟨hi,rfl⟩:=JF hx
  rw[ZtX]
  have hn:(0:Int)<bs.length:=by omega
  have hlen:(tab bs.length (lsF bs p i)).length=bs.length:=ZU _ _
  have y0:=Zts (p+1+i) (show (bs.length:Int)≠0 by omega)
  have y1:=Ztn (p+1+i) hn
  have hst:=Zjh (bs:=bs) (p:=p) h0 h1 (i:=i) (by omega)
  walk_at "pd"
  rw[V9 (by omega)]
  by_cases c:(i:Int)<bs.getD p.toNat 0%bs.length
  ·rw[if_pos c] at hst
   rw[decide_eq_true c,show ZkL [PV.bl true]=.ok (.int 1) from rfl]
   walk_at "pd"
   rw[hst]
   exact Vg ⟨_,_,rfl⟩
  ·rw[if_neg c] at hst
   rw[decide_eq_false c,show ZkL [PV.bl false]=.ok (.int 0) from rfl]
   walk_at "pd"
   rw[hst]
   exact Vg ⟨_,_,rfl⟩)
 walk_at "pd"
 rw[Jl,show (bs.length:Int).toNat=bs.length by omega,ZkV h0 h1,ZkU]
 rfl
theorem ZoM {bs:List Int}{p:Int} (h:0<=p/\p<bs.length/\bs.length<=1000):Zob.fn [.lst (bs.map PV.int),.int p]=.ok (Zcn (Va (bs,p))):=Pm.fn_eq Zob (bs,p) h fun(a:List Int×Int) e=>by
 simp only[Zob,List.cons.injEq,PV.lst.injEq,PV.int.injEq,Jb,and_true] at e ⊢
 rw[show a=(bs,p) from Prod.ext e.1 e.2]
theorem Zd9 {α:Type}{q:α->PV} (h:∀x y,q x=q y->x=y):∀{a b:List α},a.map q=b.map q->a=b
 |[],[],_=>rfl
 |[],y::b,e=>by simp at e
 |x::a,[],e=>by simp at e
 |x::a,y::b,e=>by
  simp only[Ztg,List.cons.injEq] at e
  rw[h x y e.1,Zd9 h e.2]
structure ZjQ (b:List Int) (pl:List Int):Prop where
 ok:∀t,t<pl.length->(0<=pl.getD t 0/\pl.getD t 0<b.length)/\0<(Zcy b (pl.take t)).getD (pl.getD t 0).toNat 0
theorem Zhn (b:List Int):∀pl,(Zcy b pl).length=b.length:=by
 intro pl
 induction pl generalizing b with
 |nil=>rfl
 |cons p pl ih=>rw[Zcy,ih,ZR]
noncomputable def Zoo:Pm:=⟨List Int×List Int,fun a=>[.lst (a.1.map PV.int),.lst (a.2.map ZcC)],fun a=>ZjQ a.1 a.2/\a.1.length<=1000,fun a=>.ok (.lst ((Zcy a.1 a.2).map PV.int))⟩
theorem Zsn (T:Txt K mg) {f:Addr}{fd:FuncData} (F:Fun K "_law_led" "_law_led" Zo8 f fd):JT P w K mg base CX0 2 f fd ["board", "plan"] (spF K 2 .F W0 Zoo.fn):=by
 have ZqC:=UY (P:=P) (w:=w) (base:=base) T.Zrt Zrd (fun F=>Zrc T F)
 refine F.okP Zp2 rfl rfl (fun cdv A outer s H E hr=>?_)
 have hu:=hr.units
 refine⟨_,_,⟨[],[],[],.F⟩,rfl,(Zd (Z5 (i:=2) Zp2.nd rfl (by first|exact Or.inl rfl|exact Or.inr rfl) (ZC (J3 (K:=K)) rfl T.z_list J4 (Za (pv 0) Ze)))
   (Zd (J5 (JO (JE (Zo (ZV (K:=K) (n := "list") rfl) rfl T.z_isinstance Zz (Za (pv 1) (Za (Jv (v:=.ty "list") rfl T.z_list J4 rfl) Ze))))) (Zj (Z0 Zbu)) ZB)
   (Zd (Jt PassesOwn.never rfl (ZT (K:=K) (pv 1)) (ZN (i:=3) Zp2.nd rfl (by first|exact Or.inl rfl|exact Or.inr rfl)) (Zd (J5 (PW.pt (VC (JO (JE (Zo (ZV (K:=K) (n := "tuple") rfl) rfl T.z_isinstance Zz (Za (pv 3) (Za (Jv (v:=.ty "tuple") rfl T.z_tuple ZdV rfl) Ze))))) (VC (Z9 (Vf (K:=K) hu) (Zo (Z3 (K:=K)) rfl T.z_len Jk (Za (pv 3) Ze)) Zl (ZK _)) (VC (Z9 (Vf (K:=K) hu) (ZI (Zq (K:=K)) (pv 3) Zl (fun _ _=>rfl)) Zaj (ZK _)) (Ua (JE (Zo (ZV (K:=K) (n := "bool") rfl) rfl T.z_isinstance Zz (Za (ZI (Zq (K:=K)) (pv 3) Zl (fun _ _=>rfl)) (Za (Jv (v:=.ty "bool") rfl T.z_bool ZcM rfl) Ze))))))))) (Zj (Z0 Zbu)) ZB)
   (Zd (J5 (PW.pt (VC (JO (JE (Zo (ZV (K:=K) (n := "int") rfl) rfl T.z_isinstance Zz (Za (ZI (Zq (K:=K)) (pv 3) Zl (fun _ _=>rfl)) (Za (Jv (v:=.ty "int") rfl T.z_int ZdW rfl) Ze))))) (VC (JO (ZgQ ZkR Zeo Zl (ZI (Zq (K:=K)) (pv 3) Zl (fun _ _=>rfl)) (Zo (Z3 (K:=K)) rfl T.z_len Jk (Za (pv 2) Ze)) (by rfl))) (Ua (Z9 (Zao (K:=K) hu) (ZI (Zq (K:=K)) (pv 2) (ZI (Zq (K:=K)) (pv 3) Zl (fun _ _=>rfl)) (fun _ _=>rfl)) Zl (ZK _)))))) (Zj (Z0 Zbu)) ZB)
   (Zj (Z5 (i:=2) Zp2.nd rfl (by first|exact Or.inl rfl|exact Or.inr rfl) (ZI (Zq (K:=K)) (Zy ZqC (hr.mono (by decide)) rfl (Za (pv 2) (Za (ZI (Zq (K:=K)) (pv 3) Zl (fun _ _=>rfl)) Ze))) Zl (fun _ _=>rfl)))))))
   (Zj (Z0 (pv 2)))))),
   (Zm (Γm:=[.S,.S,.O,.U]) (Je (i:=2) (V0 (Zb (Zc (i:=0) (m:=.S) rfl (by decide)) Zf)) (by decide))
   (Zm (Γm:=[.S,.S,.O,.U]) (JG (JX (Zbf (DE.toA (Vj (Zc (i:=1) (m:=.S) rfl (by decide))))))
   (Jm (DE.PF ZdM))
   ZH)
   (Zm (Γm:=[.S,.S,.O,.U]) (J9 (Γl:=[.S,.S,.O,.U]) (Jz (Vb (i:=1) rfl)) rfl (ZdL (i:=3) (by decide))
   (DS.out (Y:=⟨[.S,.S,.O,.P],[.S,.S,.O,.U],[.S,.S,.O,.U],.F⟩) (Y':=⟨[.S,.S,.O,.U],[.S,.S,.O,.U],[.S,.S,.O,.U],.F⟩) (Zm (Γm:=[.S,.S,.O,.P]) (JG (VI (JX (Zbf (DE.toA (Vj (DE.toA (Zh (i:=3) rfl)))))) (VI (Z7 (DE.toA (Js (g:=(!·)) (DE.toA (Jj (Zb (DE.toA (Zh (i:=3) rfl)) Zf))) (DE.toA Zk)))) (VI (Z7 (DE.toA (Js (g:=(!·)) (Z4 (te:=tC .non) (DE.toA (Zh (i:=3) rfl)) (DE.toA Zk)) (DE.toA Zay)))) (Zbf (DE.toA (Vj (Z4 (te:=tC .non) (DE.toA (Zh (i:=3) rfl)) (DE.toA Zk))))))))
   (Jm (DE.PF ZdM))
   ZH)
   (Zm (Γm:=[.S,.S,.O,.P]) (JG (VI (JX (Zbf (DE.toA (Vj (Z4 (te:=tC .non) (DE.toA (Zh (i:=3) rfl)) (DE.toA Zk)))))) (VI (JX (Z7 (DE.toA (ZhF (p:=fun i j=>decide (i<=j)) (q:=fun i j=>decide (i<j)) (DE.toA Zk) (Z4 (te:=tC .non) (DE.toA (Zh (i:=3) rfl)) (DE.toA Zk)) (DE.toA (Jj (Zb (Zc (i:=2) (m:=.O) rfl (by decide)) Zf))))))) (Z7 (DE.toA (Js (g:=id) (Z4 (te:=tC .non) (Zc (i:=2) (m:=.O) rfl (by decide)) (Z4 (te:=tC .non) (DE.toA (Zh (i:=3) rfl)) (DE.toA Zk))) (DE.toA Zk))))))
   (Jm (DE.PF ZdM))
   ZH)
   (Je (i:=2) (Zis (te:=tC .non) (Zg6 (Zi (Zi Zv)) (Zb (Zc (i:=2) (m:=.O) rfl (by decide)) (Zb (Z4 (te:=tC .non) (DE.toA (Zh (i:=3) rfl)) (DE.toA Zk)) Zf))) (DE.toA Zk)) (by decide)))) rfl rfl rfl rfl))
   (Jm (Vx (i:=2) rfl))))), ?_⟩
 refine Pm.ref Zoo (g:=fun xs=>_) ?_
 rintro⟨b,pl⟩ ⟨h,hb⟩
 simp only at h hb
 simp only[Zoo]
 walk_at "pd"
 generalize hw:Uo _ _ _=W
 obtain⟨ρ',rfl,v,rfl⟩:=ZF hw (fun i ρ=>∃v,ρ=[.lst (b.map PV.int),.lst (pl.map ZcC),.lst ((Zcy b (pl.take i)).map PV.int),v]) ⟨_,rfl⟩ (by
  rintro i x ρ hx ⟨v,rfl⟩
  rw[Ztf] at hx
  obtain⟨p,hp,rfl⟩:=Zt1.mp hx
  have hi:i<pl.length:=(ZsR.mp hp).1
  have hpe:pl.getD i 0=p:=by rw[ZsO,hp];rfl
  obtain⟨⟨o1,o2⟩,o3⟩:=h.ok i hi
  rw[hpe] at o1 o2 o3
  have hs:Zcy b (pl.take (i+1))=Jp (Zcy b (pl.take i)) p:=by
   rw[Zuo,hp]
   exact Zb5 b p _
  rw[hs]
  have hl:=Zhn b (pl.take i)
  generalize Zcy b (pl.take i)=c at hl o3
  unfold ZcC
  walk_at "pd"
  rw[decide_eq_true o1,decide_eq_true (show p<(c.length:Int) by omega),decide_eq_false (show ¬c.getD p.toNat 0=0 by omega)]
  walk_at "pd"
  rw[ZoM ⟨o1,by omega,by omega⟩]
  simp only[Zcn,Va]
  walk_at "pd"
  exact Vg ⟨_,rfl⟩)
 walk_at "pd"
 rw[ZsV,ZtV]
theorem Zpz {b pl:List Int} (h:ZjQ b pl/\b.length<=1000):Zoo.fn [.lst (b.map PV.int),.lst (pl.map ZcC)]=.ok (.lst ((Zcy b pl).map PV.int)):=Pm.fn_eq Zoo (b,pl) h (fun(a:List Int×List Int) e=>by
 have e':a=(b,pl):=by
  simp only[Zoo,List.cons.injEq,PV.lst.injEq,and_true] at e
  exact Prod.ext (Jh e.1) (Zd9 (fun x y z=>by simp only[ZcC,PV.tup.injEq,List.cons.injEq,PV.int.injEq,and_true,true_and] at z;exact z) e.2)
 rw[e'])
structure ZhR (L:List (List Int)) (n:Nat) (s:Int):Prop where
 ne:L≠[]
 bs:∀x∈L,Bs n s x
 up:L.Pairwise fun a b=>HT.ZD a b=true
 sz:L.length<=1000
 n1:1<=n
 n2:n<=1000
noncomputable def ZnT:Pm:=⟨List (List Int)×Nat×Int,fun a=>[llQ a.1,.int a.2.1,.int a.2.2],fun a=>ZhR a.1 a.2.1 a.2.2,fun _=>.ok (.bl true)⟩
theorem Zr5 (T:Txt K mg) {f:Addr}{fd:FuncData} (F:Fun K "_law_boards" "_law_boards" ZnN f fd):JT P w K mg base CX0 1 f fd ["level", "pits", "seeds"] (spF K 3 .P W0 ZnT.fn):=by
 refine F.okP ZoO rfl rfl (fun cdv A outer s H E hr=>?_)
 have hu:=hr.units
 refine⟨_,_,⟨[],[],[],.P⟩,rfl,(Zd (J5 (PW.pt (VC (JO (JE (Zo (ZV (K:=K) (n := "list") rfl) rfl T.z_isinstance Zz (Za (pv 0) (Za (Jv (v:=.ty "list") rfl T.z_list J4 rfl) Ze))))) (Ua (Z9 (Zao (K:=K) hu) (pv 0) (JV Ze) (ZK _))))) (Zj (Z0 Vs)) ZB)
   (Zd (Jt PassesOwn.never rfl (ZT (K:=K) (pv 0)) (ZN (i:=3) ZoO.nd rfl (by first|exact Or.inl rfl|exact Or.inr rfl)) (Zd (J5 (PW.pt (VC (JO (JE (Zo (ZV (K:=K) (n := "list") rfl) rfl T.z_isinstance Zz (Za (pv 3) (Za (Jv (v:=.ty "list") rfl T.z_list J4 rfl) Ze))))) (VC (Z9 (Vf (K:=K) hu) (Zo (Z3 (K:=K)) rfl T.z_len Jk (Za (pv 3) Ze)) (pv 1) (ZK _)) (VC (Z9 (Vf (K:=K) hu) (Zo (Vk (K:=K) rfl) rfl T.z_sum Za2 (Za (pv 3) Ze)) (pv 2) (ZK _)) (Ua (Z9 Zeo (Zo (Ze5 (K:=K) rfl) rfl T.z_min ZlD (Za (pv 3) Ze)) Zl (ZK _))))))) (Zj (Z0 Vs)) ZB)
   (Zj (Jt PassesOwn.never rfl (ZT (K:=K) (pv 3)) (ZN (i:=4) ZoO.nd rfl (by first|exact Or.inl rfl|exact Or.inr rfl)) (Zj (J5 (PW.pt (VC (JO (JE (Zo (ZV (K:=K) (n := "int") rfl) rfl T.z_isinstance Zz (Za (pv 4) (Za (Jv (v:=.ty "int") rfl T.z_int ZdW rfl) Ze))))) (Ua (JE (Zo (ZV (K:=K) (n := "bool") rfl) rfl T.z_isinstance Zz (Za (pv 4) (Za (Jv (v:=.ty "bool") rfl T.z_bool ZcM rfl) Ze))))))) (Zj (Z0 Vs)) ZB))))))
   (Zd (Jt PassesOwn.never rfl (Jf rfl T.z_range (Za (Z6 Zfw (Zo (Z3 (K:=K)) rfl T.z_len Jk (Za (pv 0) Ze)) Zl) Ze)) (ZN (i:=5) ZoO.nd rfl (by first|exact Or.inl rfl|exact Or.inr rfl)) (Zj (J5 (JO (Z9 (ZiY (K:=K) hu) (ZI (Zq (K:=K)) (pv 0) (pv 5) (fun _ _=>rfl)) (ZI (Zq (K:=K)) (pv 0) (Z6 J6 (pv 5) Zl) (fun _ _=>rfl)) (ZK _))) (Zj (Z0 Vs)) ZB)))
   (Zj (Z0 Vs))))),
   (Zm (Γm:=[.S,.S,.S,.U,.U,.U]) (JG (VI (JX (Zbf (DE.toA (Vj (Zc (i:=0) (m:=.S) rfl (by decide)))))) (Z7 (DE.toA (Js (g:=id) (Zc (i:=0) (m:=.S) rfl (by decide)) (DE.toA (Vz J0))))))
   (Z8 V7)
   ZH)
   (Zm (Γm:=[.S,.S,.S,.U,.U,.U]) (J9 (Γl:=[.S,.S,.S,.U,.U,.U]) (Jz (Vb (i:=0) rfl)) rfl (Zm7 (i:=3) (by decide))
   (DS.out (Y:=⟨[.S,.S,.S,.S,.U,.U],[.S,.S,.S,.U,.U,.U],[.S,.S,.S,.U,.U,.U],.P⟩) (Y':=⟨[.S,.S,.S,.U,.U,.U],[.S,.S,.S,.U,.U,.U],[.S,.S,.S,.U,.U,.U],.P⟩) (Zm (Γm:=[.S,.S,.S,.S,.U,.U]) (JG (VI (JX (Zbf (DE.toA (Vj (Zc (i:=3) (m:=.S) rfl (by decide)))))) (VI (Z7 (DE.toA (Js (g:=(!·)) (DE.toA (Jj (Zb (Zc (i:=3) (m:=.S) rfl (by decide)) Zf))) (Zc (i:=1) (m:=.S) rfl (by decide))))) (VI (Z7 (DE.toA (Js (g:=(!·)) (DE.toA (Zax (Zb (Zc (i:=3) (m:=.S) rfl (by decide)) Zf))) (Zc (i:=2) (m:=.S) rfl (by decide))))) (Z7 (DE.toA (Zgf (DE.toA (Zl5 (Zb (Zc (i:=3) (m:=.S) rfl (by decide)) Zf))) (DE.toA Zk)))))))
   (Z8 V7)
   ZH)
   (J9 (Γl:=[.S,.S,.S,.S,.U,.U]) (Jz (Vb (i:=3) rfl)) rfl (ZdL (i:=4) (by decide))
   (DS.out (Y:=⟨[.S,.S,.S,.S,.P,.U],[.S,.S,.S,.S,.U,.U],[.S,.S,.S,.S,.U,.U],.P⟩) (Y':=⟨[.S,.S,.S,.S,.U,.U],[.S,.S,.S,.S,.U,.U],[.S,.S,.S,.S,.U,.U],.P⟩) (JG (VI (JX (Zbf (DE.toA (Vj (DE.toA (Zh (i:=4) rfl)))))) (Zbf (DE.toA (Vj (DE.toA (Zh (i:=4) rfl))))))
   (Z8 V7)
   ZH) rfl rfl rfl rfl))) rfl rfl rfl rfl))
   (Zm (Γm:=[.S,.S,.S,.U,.U,.U]) (J9 (Γl:=[.S,.S,.S,.U,.U,.U]) (JQ (Zb (DE.toA (Zgb (DE.toA (Jj (Zb (Zc (i:=0) (m:=.S) rfl (by decide)) Zf))) (DE.toA Zk))) Zf)) rfl (ZdL (i:=5) (by decide))
   (DS.out (Y:=⟨[.S,.S,.S,.U,.U,.P],[.S,.S,.S,.U,.U,.U],[.S,.S,.S,.U,.U,.U],.P⟩) (Y':=⟨[.S,.S,.S,.U,.U,.U],[.S,.S,.S,.U,.U,.U],[.S,.S,.S,.U,.U,.U],.P⟩) (JG (JX (Z7 (DE.toA (Zl6 (Z4 (te:=tC .non) (Zc (i:=0) (m:=.S) rfl (by decide)) (DE.toA (Zh (i:=5) rfl))) (Z4 (te:=tC .non) (Zc (i:=0) (m:=.S) rfl (by decide)) (DE.toA (JA (DE.toA (Zh (i:=5) rfl)) (DE.toA Zk))))))))
   (Z8 V7)
   ZH) rfl rfl rfl rfl))
   (Z8 V7)))), ?_⟩
 refine Pm.ref ZnT (g:=fun xs=>_) ?_
 rintro⟨L,n,s⟩ (h:ZhR L n s)
 simp only[ZnT,llQ]
 have hz:=h.sz
 have h1:=h.n1
 have h2:=h.n2
 walk_at "pd"
 rw[show PV.lst []=.lst (([]:List (List Int)).map Jy) from rfl,Qr,decide_eq_false h.ne]
 walk_at "pd"
 generalize hw:Uo _ _ _=W
 obtain⟨ρ',rfl,v1,v2,rfl⟩:=ZF hw (fun i ρ=>∃v1 v2,ρ=[.lst (L.map Jy),.int n,.int s,v1,v2,.non]) ⟨_,_,rfl⟩ (by
  rintro i x ρ hx ⟨v1,v2,rfl⟩
  rw[Ztf] at hx
  obtain⟨b,hb,rfl⟩:=Zt1.mp hx
  obtain⟨b1,b2,b3⟩:=h.bs b (ZsQ hb)
  rw[show Jy b=.lst (b.map PV.int) from rfl]
  have bne:b≠[]:=by intro e;rw[e] at b1;simp at b1;omega
  have hm:=b2 _ (U0 bne)
  walk_at "pd"
  rw[b1,decide_eq_true rfl,b3,decide_eq_true rfl]
  walk_at "pd"
  rw[Zfp bne]
  walk_at "pd"
  rw[decide_eq_false (by omega)]
  walk_at "pd"
  generalize hw2:Uo _ _ _=W2
  obtain⟨ρ',rfl,v3,rfl⟩:=ZF hw2 (fun i ρ=>∃v3,ρ=[.lst (L.map Jy),.int n,.int s,.lst (b.map PV.int),v3,.non]) ⟨_,rfl⟩ (by
   rintro j x ρ hx ⟨v3,rfl⟩
   rw[Ztf] at hx
   obtain⟨q,hq,rfl⟩:=Zt1.mp hx
   walk_at "pd"
   exact⟨_,rfl⟩)
  exact⟨_,_,rfl⟩)
 walk_at "pd"
 rw[VO,ZsV]
 have hl:1<=L.length:=ZuG.mpr h.ne
 walk_at "pd"
 generalize hw2:Uo _ _ _=W2
 obtain⟨ρ',rfl,v3,rfl⟩:=ZF hw2 (fun i ρ=>∃v3,ρ=[.lst (L.map Jy),.int n,.int s,v1,v2,v3]) ⟨_,rfl⟩ (by
  rintro i x ρ hx ⟨v3,rfl⟩
  obtain⟨hi,rfl⟩:=JF hx
  walk_at "pd"
  rw[Zbx (q:=Jy) (d:=[]) (by omega) (by omega)]
  walk_at "pd"
  rw[Zbx (q:=Jy) (d:=[]) (by omega) (by omega)]
  have e1:(0+(i:Int)).toNat=i:=by omega
  have e2:(0+(i:Int)+1).toNat=i+1:=by omega
  have hlt:HT.ZD (L.getD i []) (L.getD (i+1) [])=true:=by
   rw[ZsO,ZsO,ZsP (by omega),ZsP (by omega)]
   exact ZtY.mp h.up i (i+1) (by omega) (by omega) (by omega)
  rw[e1,e2]
  walk_at "pd"
  rw[show ZjT (Jy (L.getD i [])) (Jy (L.getD (i+1) []))=.ok (.bl true) by simp only[Jy,ZjT,Zew,hlt]]
  walk_at "pd"
  exact⟨_,rfl⟩)
 walk_at "pd"
theorem ZoG {L:List (List Int)}{n:Nat}{s:Int} (h:ZhR L n s):ZnT.fn [llQ L,.int n,.int s]=.ok (.bl true):=Pm.fn_eq ZnT (L,n,s) h (fun _ _=>rfl)
noncomputable def ZnJ:Pm:=⟨List Int,fun b=>[.lst (b.map PV.int)],fun b=>b.length<=1000,fun b=>.ok (.lst ((Uw (Jc b.length) b).map fun y=>Jy y.2))⟩
theorem Zr6 (T:Txt K mg) {f:Addr}{fd:FuncData} (F:Fun K "_law_behind" "_law_behind" ZnO f fd):JT P w K mg base CX0 2 f fd ["board"] (spF K 1 .F W0 ZnJ.fn):=by
 have ZqC:=UY (P:=P) (w:=w) (base:=base) T.Zrt Zrd (fun F=>Zrc T F)
 refine F.okP Zpi rfl rfl (fun cdv A outer s H E hr=>?_)
 have hu:=hr.units
 refine⟨_,_,⟨[],[],[],.F⟩,rfl,(Zj (Z0 (VM (Jf rfl T.z_range (Za (Zo (Z3 (K:=K)) rfl T.z_len Jk (Za (pv 0) Ze)) Ze)) (VD Zpi.nd) (fun _ _ _ _=>(Zie (fun _ _ h=>h) (Z9 Zhi (ZI (Zq (K:=K)) (pv 0) (pv 1) (fun _ _=>rfl)) Zl (ZK _)))) (fun _ _ _ _=>(ZI (Zq (K:=K)) (Zy ZqC (hr.mono (by decide)) rfl (Za (pv 0) (Za (pv 1) Ze))) Zl (fun _ _=>rfl))) hv1 Zpi.nd rfl))),
   (Jm (UA (k:=1) (DI.c (JQ (Zb (DE.toA (Jj (Zb (Zc (i:=0) (m:=.S) rfl (by decide)) Zf))) Zf))) Zl9 (Z7 (DE.toA (ZhE (Z4 (te:=tC .non) (Zc (i:=0) (m:=.S) rfl (by decide)) (Zc (i:=1) (m:=.S) rfl (by decide))) (DE.toA Zk)))) (Zis (te:=tC .non) (Zg6 (Zi (Zi Zv)) (Zb (Zc (i:=0) (m:=.S) rfl (by decide)) (Zb (Zc (i:=1) (m:=.S) rfl (by decide)) Zf))) (DE.toA Zk)))), ?_⟩
 refine Pm.ref ZnJ (g:=fun xs=>_) ?_
 rintro(b:List Int) (hb:b.length<=1000)
 simp only[ZnJ]
 walk_at "pd"
 rw[ZaR (p:=fun i=>decide (0<b.getD i 0)) (g:=fun(i:Nat)=>Jy (Jp b (i:Int))) (fun i hi=>by
  rw[ZtX]
  walk_at "pd"
  rw[Ztr]
  by_cases c:0<b.getD i 0
  ·rw[decide_eq_true c]
   walk_at "pd"
   rw[ZoM ⟨by omega,by omega,by omega⟩]
   simp only[Zcn,Va]
   walk_at "pd"
   rfl
  ·rw[decide_eq_false c]
   walk_at "pd")]
 walk_at "pd"
 unfold Uw Jc
 rw[List.filter_map,Zt6,Zt6,Ztr]
 rfl
theorem ZoH {b:List Int} (h:b.length<=1000):ZnJ.fn [.lst (b.map PV.int)]=.ok (.lst ((Uw (Jc b.length) b).map fun y=>Jy y.2)):=Pm.fn_eq ZnJ b h fun(a:List Int) e=>by (simp only[ZnJ,List.cons.injEq,PV.lst.injEq,PV.int.injEq,PV.str.injEq,PV.bl.injEq,PV.tup.injEq,Jb,and_true] at e ⊢;first|(simp only[e];done)|(subst e;rfl)|(rw[e]))
structure ZmI (b:List Int) (N:Nat):Prop where
 fw:ZeB b.length b.sum (Jc b.length) b
 l1:1<=b.length
 l2:b.length<=24
 n:N<=1000
noncomputable def lrQ (b:List Int) (N:Nat):List PV:=(List.range (N+1)).map fun i=>llQ (V3 (wk (Jc b.length) b i).1)
theorem Zf9 {b:List Int}{N k:Nat} (h:k<=N) (hN:N<=1000):pIx (.lst (lrQ b N)) (.int (k:Int))=.ok (llQ (V3 (wk (Jc b.length) b k).1)):=by
 unfold lrQ
 rw[Zbx (q:=fun i=>llQ (V3 (wk (Jc b.length) b i).1)) (d:=0) (by omega) (by simp;omega),Ztr,ZsO,Zud (by omega)]
 rfl
noncomputable def Zn1:Pm:=⟨List Int×Nat,fun a=>[.lst (lrQ a.1 a.2),.lst (a.1.map PV.int)],fun a=>ZmI a.1 a.2,fun _=>.ok (.bl true)⟩
theorem Zqo (T:Txt K mg) {f:Addr}{fd:FuncData} (F:Fun K "_law_levels_right" "_law_levels_right" Zn2 f fd):JT P w K mg base CX0 3 f fd ["levels", "board"] (spF K 2 .P W0 Zn1.fn):=by
 have ZrS:=UY (P:=P) (w:=w) (base:=base) T.ZrL ZrB (fun F=>Zr6 T F)
 refine F.okP Zn7 rfl rfl (fun cdv A outer s H E hr=>?_)
 have hu:=hr.units
 refine⟨_,_,⟨[],[],[],.P⟩,rfl,(Zd (Z5 (i:=2) Zn7.nd rfl (by first|exact Or.inl rfl|exact Or.inr rfl) (Zbv (hu1 hu) (ZC (Jn (K:=K)) rfl T.z_tuple JR (Za (pv 1) Ze)) Vs))
   (Zd (J5 (Z9 (Vf (K:=K) hu) (ZI (Zq (K:=K)) (pv 0) Zl (fun _ _=>rfl)) (JV (Za (pv 1) Ze)) (ZK _)) (Zj (Z0 Vs)) ZB)
   (Zd (Jt PassesOwn.never rfl (Jf rfl T.z_range (Za (Z6 Zfw (Zo (Z3 (K:=K)) rfl T.z_len Jk (Za (pv 0) Ze)) Zl) Ze)) (ZN (i:=3) Zn7.nd rfl (by first|exact Or.inl rfl|exact Or.inr rfl)) (Zd (Z5 (i:=4) Zn7.nd rfl (by first|exact Or.inl rfl|exact Or.inr rfl) (JV Ze))
   (Zd (Jt PassesOwn.never rfl (ZT (K:=K) (ZI (Zq (K:=K)) (pv 0) (pv 3) (fun _ _=>rfl))) (ZN (i:=5) Zn7.nd rfl (by first|exact Or.inl rfl|exact Or.inr rfl)) (Zj (Jt PassesOwn.never rfl (ZT (K:=K) (Zy ZrS (hr.mono (by decide)) rfl (Za (pv 5) Ze))) (ZN (i:=6) Zn7.nd rfl (by first|exact Or.inl rfl|exact Or.inr rfl)) (Zj (J5 (Zfd (QD (hu1 hu) (ZC (Jn (K:=K)) rfl T.z_tuple JR (Za (pv 6) Ze)) (pv 2))) (Zd (Zfe (hu1 hu) (pv 2) (ZC (Jn (K:=K)) rfl T.z_tuple JR (Za (pv 6) Ze)) Vs rfl)
   (Zj (Jq (ZaI PySem.F.plainAttrs_list PySem.F.slot_list_append PySem.F.type_list_append Jr (pv 4) (Za (pv 6) Ze))))) ZB)))))
   (Zj (J5 (Z9 (Vf (K:=K) hu) (ZI (Zq (K:=K)) (pv 0) (Z6 J6 (pv 3) Zl) (fun _ _=>rfl)) (Zo (ZcL (K:=K) hu) rfl T.z_sorted ZbU (Za (pv 4) Ze)) (ZK _)) (Zj (Z0 Vs)) ZB)))))
   (Zj (Z0 Vs))))),
   (Zm (Γm:=[.S,.S,.O,.U,.U,.U,.U]) (Je (i:=2) (ZbL (Vy (Zb (Zc (i:=1) (m:=.S) rfl (by decide)) Zf)) V7) (by decide))
   (Zm (Γm:=[.S,.S,.O,.U,.U,.U,.U]) (JG (Z7 (DE.toA (Js (g:=(!·)) (Z4 (te:=tC .non) (Zc (i:=0) (m:=.S) rfl (by decide)) (DE.toA Zk)) (ZcD (Zb (Zc (i:=1) (m:=.S) rfl (by decide)) Zf)))))
   (Z8 V7)
   ZH)
   (Zm (Γm:=[.S,.S,.O,.U,.U,.U,.U]) (J9 (Γl:=[.S,.S,.O,.U,.U,.U,.U]) (JQ (Zb (DE.toA (Zgb (DE.toA (Jj (Zb (Zc (i:=0) (m:=.S) rfl (by decide)) Zf))) (DE.toA Zk))) Zf)) rfl (ZdL (i:=3) (by decide))
   (DS.out (Y:=⟨[.S,.S,.O,.P,.T,.U,.U],[.S,.S,.O,.U,.U,.U,.U],[.S,.S,.O,.U,.U,.U,.U],.P⟩) (Y':=⟨[.S,.S,.O,.U,.U,.U,.U],[.S,.S,.O,.U,.U,.U,.U],[.S,.S,.O,.U,.U,.U,.U],.P⟩) (Zm (Γm:=[.S,.S,.O,.P,.T,.U,.U]) (Zjz (i:=4) (ZjA Zgh) (by decide))
   (Zm (Γm:=[.S,.S,.O,.P,.T,.U,.U]) (J9 (Γl:=[.S,.S,.O,.P,.T,.U,.U]) (Jz (Zir (te:=tC .non) (Vb (i:=0) rfl) (DE.toA (Zh (i:=3) rfl)))) rfl (Zm7 (i:=5) (by decide))
   (DS.out (Y:=⟨[.S,.S,.O,.P,.T,.S,.U],[.S,.S,.O,.P,.T,.U,.U],[.S,.S,.O,.P,.T,.U,.U],.P⟩) (Y':=⟨[.S,.S,.O,.P,.T,.U,.U],[.S,.S,.O,.P,.T,.U,.U],[.S,.S,.O,.P,.T,.U,.U],.P⟩) (J9 (Γl:=[.S,.S,.O,.P,.T,.S,.U]) (Jz (DE.FZ (Zg6 (Zi Zv) (Zb (Zc (i:=5) (m:=.S) rfl (by decide)) Zf)))) rfl (Zm7 (i:=6) (by decide))
   (DS.out (Y:=⟨[.S,.S,.O,.P,.T,.S,.S],[.S,.S,.O,.P,.T,.S,.U],[.S,.S,.O,.P,.T,.S,.U],.P⟩) (Y':=⟨[.S,.S,.O,.P,.T,.S,.U],[.S,.S,.O,.P,.T,.S,.U],[.S,.S,.O,.P,.T,.S,.U],.P⟩) (JG (Zbf (DE.toA (QT (Vy (Zb (Zc (i:=6) (m:=.S) rfl (by decide)) Zf)) (Zc (i:=2) (m:=.O) rfl (by decide)))))
   (Zm (Γm:=[.S,.S,.O,.P,.T,.S,.S]) (ZdJ (i:=2) rfl (DE.PF V7) (Vy (Zb (Zc (i:=6) (m:=.S) rfl (by decide)) Zf)))
   (Zj2 (i:=4) rfl rfl (Vb (i:=6) rfl)))
   ZH) rfl rfl rfl rfl)) rfl rfl rfl rfl))
   (JG (Z7 (DE.toA (Js (g:=(!·)) (Z4 (te:=tC .non) (Zc (i:=0) (m:=.S) rfl (by decide)) (DE.toA (JA (DE.toA (Zh (i:=3) rfl)) (DE.toA Zk)))) (DE.toA (Zgc (i:=4) rfl)))))
   (Z8 V7)
   ZH))) rfl rfl rfl rfl))
   (Z8 V7)))), ?_⟩
 refine Pm.ref Zn1 (g:=fun xs=>_) ?_
 rintro⟨b,N⟩ (h:ZmI b N)
 simp only[Zn1]
 have F:=h.fw
 have l1:=h.l1
 have l2:=h.l2
 have hN:=h.n
 walk_at "pd"
 rw[show UX [PV.lst (b.map PV.int)]=.ok (Jd b) from rfl]
 walk_at "pd"
 rw[Zdy]
 walk_at "pd"
 rw[show PV.int 0=.int ((0:Nat):Int) from rfl,Zf9 (Ztp _) hN]
 walk_at "pd"
 rw[show V3 (wk (Jc b.length) b 0).1=[b] from List.perm_singleton.mp (ZA [b]),show Zam (fun x=>!x) (llQ [b]) (.lst [.lst (b.map PV.int)])=.ok (.bl (!decide ([b]=[b]))) from Qr [b] [b],decide_eq_true rfl]
 walk_at "pd"
 have hll:(lrQ b N).length=N+1:=by simp[lrQ]
 rw[VO,hll]
 walk_at "pd"
 have hlen:∀i,∀x∈V3 (wk (Jc b.length) b i).1,x.length=b.length:=fun i x hx=>by
  exact(((JZ _ b i).re x ((JZ _ b i).sub x ((ZA _).mem_iff.mp hx))).bs F.hP F.hb).1
 have hpl:(Jc b.length).length=b.length:=by simp[Jc]
 have hlvl:∀i,(V3 (wk (Jc b.length) b i).1).length<=1000:=fun i=>by
  rw[(ZA _).length_eq]
  exact F.lvl i
 generalize hw:Uo _ _ _=W
 obtain⟨ρ',rfl,M,vs,v3,v4,v5,v6,rfl,_⟩:=ZF hw (fun i ρ=>∃(M:List (List Int)) (vs:List PV) (v3 v4 v5 v6:PV),ρ=[.lst (lrQ b N),.lst (b.map PV.int),.box none (.dt (M.map tI)) vs,v3,v4,v5,v6]/\M.Nodup/\(∀z,z∈M ↔ z∈(wk (Jc b.length) b i).2.1)/\vs.length=M.length) ⟨[b],[.bl true],_,_,_,_,rfl,by simp,fun z=>Iff.rfl,rfl⟩ (by
  rintro i x ρ hx ⟨M,vs,v3,v4,v5,v6,rfl,nd,hm,hv⟩
  obtain⟨hi,rfl⟩:=JF hx
  have hML:M.length<=1000:=by
   rw[((List.perm_ext_iff_of_nodup nd (JZ _ b i).nd).mpr hm).length_eq]
   exact F.le i
  walk_at "pd"
  rw[ZtX,Zf9 (by omega) hN]
  unfold llQ
  walk_at "pd"
  obtain⟨d1,d2,d3⟩:=Zjx nd hm
  have dl:=fun n=>Zj4 (Jc b.length) ((V3 (wk (Jc b.length) b i).1).take n) ([],M)
  have hS:=hlen i
  have hSl:=hlvl i
  generalize V3 (wk (Jc b.length) b i).1=S at d1 d2 d3 dl hS hSl
  generalize hw2:Uo _ _ _=W2
  obtain⟨ρ2,rfl,vs2,w5,w6,rfl,hv2⟩:=ZF hw2 (fun j ρ=>∃(vs:List PV) (v5 v6:PV),ρ=[.lst (lrQ b N),.lst (b.map PV.int),.box none (.dt (((S.take j).foldl (bdQ (Jc b.length)) ([],M)).2.map tI)) vs,.int (i:Int),.lst (((S.take j).foldl (bdQ (Jc b.length)) ([],M)).1.map Jy),v5,v6]/\vs.length=((S.take j).foldl (bdQ (Jc b.length)) ([],M)).2.length) ⟨vs,_,_,rfl,hv⟩ (by
   rintro j x ρ hx ⟨vs,v5,v6,rfl,hv⟩
   rw[Ztf] at hx
   obtain⟨c,hc,rfl⟩:=Zt1.mp hx
   have hcl:=hS c (ZsQ hc)
   have hs:(S.take (j+1)).foldl (bdQ (Jc b.length)) ([],M)=(Uw (Jc b.length) c).foldl stQ ((S.take j).foldl (bdQ (Jc b.length)) ([],M)):=by
    rw[Zuo,hc,Zum];rfl
   rw[hs]
   have hz:((S.take j).foldl (bdQ (Jc b.length)) ([],M)).1.length<=0+(S.take j).length*(Jc b.length).length/\((S.take j).foldl (bdQ (Jc b.length)) ([],M)).2.length<=M.length+(S.take j).length*(Jc b.length).length:=dl j
   have hzz:(S.take j).length*(Jc b.length).length<=1000*24:=Nat.mul_le_mul (by rw[Ztk];omega) (by omega)
   generalize (S.take j).length*(Jc b.length).length=pr at hz hzz
   generalize (S.take j).foldl (bdQ (Jc b.length)) ([],M)=st0 at hz hv
   rw[show Jy c=.lst (c.map PV.int) from rfl]
   walk_at "pd"
   rw[ZoH (by omega),hcl]
   walk_at "pd"
   have hsl:(Uw (Jc b.length) c).length<=24:=by
    unfold Uw
    rw[ZsV]
    exact Ztu (Zu7 _ _) (by omega)
   generalize Uw (Jc b.length) c=SL at hsl
   generalize hw3:Uo _ _ _=W3
   obtain⟨ρ3,rfl,vs3,w6,rfl,hv3⟩:=ZF hw3 (fun n ρ=>∃(vs:List PV) (v6:PV),ρ=[.lst (lrQ b N),.lst (b.map PV.int),.box none (.dt (((SL.take n).foldl stQ st0).2.map tI)) vs,.int (i:Int),.lst (((SL.take n).foldl stQ st0).1.map Jy),.lst (c.map PV.int),v6]/\vs.length=((SL.take n).foldl stQ st0).2.length) ⟨vs,_,rfl,hv⟩ (by
    rintro n x ρ hx ⟨vs,v6,rfl,hv⟩
    rw[Ztf] at hx
    obtain⟨y,hy,rfl⟩:=Zt1.mp hx
    have hs2:(SL.take (n+1)).foldl stQ st0=stQ ((SL.take n).foldl stQ st0) y:=by
     rw[Zuo,hy,Zum];rfl
    rw[hs2]
    have hz2:=Zip (Jc b.length) (SL.take n) st0
    have htl:(SL.take n).length<=24:=by rw[Ztk];omega
    generalize (SL.take n).foldl stQ st0=st at hz2 hv
    rw[show Jy y.2=.lst (y.2.map PV.int) from rfl]
    walk_at "pd"
    rw[show UX [PV.lst (y.2.map PV.int)]=.ok (Jd y.2) from rfl]
    walk_at "pd"
    rw[Zd0]
    walk_at "pd"
    unfold stQ
    by_cases cc:y.2∈st.2
    ·obtain⟨z,hz⟩:=Zbc (ks:=st.2.map tI) (xs:=vs) (by rw[ZsV];omega) (VZ.mpr cc)
     rw[hz,if_pos cc]
     walk_at "pd"
     exact Vg ⟨_,_,rfl,hv⟩
    ·rw[Qx (fun z=>cc (VZ.mp z)),if_neg cc]
     rw[show (!(none:Option PV).isSome)=true from rfl,if_pos rfl,Zft rfl (by omega),Zbs (fun z=>cc (VZ.mp z)),Zbr (fun z=>cc (VZ.mp z))]
     walk_at "pd"
     rw[show PV.lst (y.2.map PV.int)=Jy y.2 from rfl,Vt (by rw[ZsV];omega)]
     walk_at "pd"
     exact Vg ⟨_,_,by simp only[ZtI];rfl,by simp[hv]⟩)
   walk_at "pd"
   rw[ZsV,ZtV] at hv3 ⊢
   exact Vg ⟨_,_,_,rfl,hv3⟩)
  walk_at "pd"
  have hzS:=dl S.length
  rw[ZtV] at hzS
  have hzz:S.length*(Jc b.length).length<=1000*24:=Nat.mul_le_mul hSl (by omega)
  rw[ZsV,ZtV] at hv2 ⊢
  rw[show (i:Int)+1=((i+1:Nat):Int) by omega,Zf9 (by omega) hN]
  walk_at "pd"
  rw[Zfn (by simp at hzS;omega),d1]
  unfold llQ
  walk_at "pd"
  rw[Qr,decide_eq_true rfl]
  walk_at "pd"
  exact Vg ⟨_,_,_,_,_,_,rfl,d2,d3,hv2⟩)
 walk_at "pd"
theorem ZnK {b:List Int}{N:Nat} (h:ZmI b N):Zn1.fn [.lst (lrQ b N),.lst (b.map PV.int)]=.ok (.bl true):=Pm.fn_eq Zn1 (b,N) h (fun _ _=>rfl)
noncomputable def Znq:Bool:=(List.range 11).all fun(p:Nat)=>(List.range 41).all fun(s:Nat)=>decide ((p=2\/(p=3/\s<11)\/(p=4/\s<7)\/(p=5/\s<5)\/(6<=p/\s<4))->cbN p s<=1000)
theorem Zlp:Znq=true:=by decide +kernel
theorem Zm5 (c:Int):2<=fwP c/\fwP c<=10/\0<=fwS c/\fwS c<=40/\cbN (fwP c) (fwS c)<=1000:=by
 have key:∀(p s:Nat),p<11->s<41->(p=2\/(p=3/\s<11)\/(p=4/\s<7)\/(p=5/\s<5)\/(6<=p/\s<4))->cbN p s<=1000:=fun p s hp hs hc=>by
  have h:=ZtD.mp (ZtD.mp Zlp p (Ztv.mpr hp)) s (Ztv.mpr hs)
  exact of_decide_eq_true h hc
 have fin:∀(p:Nat) (m x:Int),0<m->m<=41->2<=p->p<=10->(∀s:Nat,(s:Int)<m->(p=2\/(p=3/\s<11)\/(p=4/\s<7)\/(p=5/\s<5)\/(6<=p/\s<4)))->2<=(p:Int)/\(p:Int)<=10/\0<=x%m/\x%m<=40/\cbN p (x%m)<=1000:=fun p m x m0 m1 p2 p10 hc=>by
  have q1:=Zts x (show m≠0 by omega)
  have q2:=Ztn x m0
  generalize x%m=r at q1 q2
  have:=key p r.toNat (by omega) (by omega) (hc _ (by omega))
  rw[Zt0 q1] at this
  exact⟨by omega,by omega,q1,by omega,this⟩
 unfold fwP fwS
 generalize stir c 5=x
 split
 ·have h5:0<=c/4%5/\c/4%5<5:=by omega
  generalize c/4%5=d at h5
  have:=fin (6+d).toNat 4 x (by decide) (by decide) (by omega) (by omega) (fun s h=>.inr (.inr (.inr (.inr ⟨by omega,by omega⟩))))
  rw[Zt0 (by omega)] at this
  exact this
 ·have h4:(c/4%4=0\/c/4%4=1\/c/4%4=2\/c/4%4=3):=by omega
  rcases h4 with z|z|z|z<;>rw[z]
  ·exact fin 2 41 x (by decide) (by decide) (by decide) (by decide) (fun _ _=>.inl rfl)
  ·exact fin 3 11 x (by decide) (by decide) (by decide) (by decide) (fun s h=>.inr (.inl ⟨rfl,by omega⟩))
  ·exact fin 4 7 x (by decide) (by decide) (by decide) (by decide) (fun s h=>.inr (.inr (.inl ⟨rfl,by omega⟩)))
  ·exact fin 5 5 x (by decide) (by decide) (by decide) (by decide) (fun s h=>.inr (.inr (.inr (.inl ⟨rfl,by omega⟩))))
theorem Zhb {g:Bool->Bool}{n:Nat}{x:PV} (h:Dat n x) (hn:n<=64:=by decide):Zam g x x=.ok (.bl (g true)):=by
 unfold Zam
 rw[h.ok hn,Bool.and_self,if_pos rfl,PySem.SeqAt.eqv_refl _ h.can]
structure Znw (b o:List Int) (n:Nat) (s:Int):Prop where
 lw:Lw b o
 led:ZjQ b (lwP b o)
 to:Zcy b (lwP b o)=o
 len:(lwP b o).length=goN (Jc b.length) b o
 n:goN (Jc b.length) b o<=1000
theorem Znn {b o:List Int}{n:Nat}{s:Int} (h2:2<=n) (h24:n<=24) (hs:s<=10^60) (B:Bs n s b) (O:Bs n s o) (hc:cbN n s<=1000):Znw b o n s:=by
 obtain⟨e1,e2,e3⟩:=B
 obtain⟨o1,o2,o3⟩:=O
 have hl:Lw b o:=⟨Vl.mpr ⟨by omega,by omega,e2,by omega⟩,Vl.mpr ⟨by omega,by omega,o2,by omega⟩,by omega,by omega,by rw[e1,e3];exact hc⟩
 obtain⟨F,R,_,_⟩:=hl.fw
 obtain⟨g1,g2,g3,g4,g5⟩:=ZfN F R
 obtain⟨ys,ps,C,c0,P⟩:=ZaY (P:=Jc b.length) (b:=b) (goN (Jc b.length) b o) (goN (Jc b.length) b o) (ZsU _) g4
 have hkl:=ZcZ (Jc b.length) b (goN (Jc b.length) b o) g5
 have e:lwP b o=((List.range (goN (Jc b.length) b o)).map ps).reverse:=by
  have:=C.org ((wk (Jc b.length) b (goN (Jc b.length) b o)).2.1.length+1) 0 (Ztp _) (by omega)
  rw[c0] at this
  unfold lwP
  rw[this]
  simp
 rw[<- e] at P
 refine⟨hl,⟨fun t ht=>?_⟩,P.led,P.len,g1⟩
 obtain⟨q1,q2⟩:=P.ok t (by rw[<- P.len];exact ht)
 exact⟨UD.mp q1,q2⟩
noncomputable def ZqE:Pm:=⟨List Int,fun ns=>[.lst (ns.map PV.int)],fun ns=>ns.length<=63,fun _=>.ok (.bl true)⟩
theorem ZsL (T:Txt K mg) {f:Addr}{fd:FuncData} (F:Fun K "law" "law" ZrT f fd):JT P w K mg base CX0 7 f fd ["script"] (spF K 1 .P W0 ZqE.fn):=by
 have ZsB:=UY (P:=P) (w:=w) (base:=base) T.Zs4 Zsw (fun F=>Zso T F)
 have Zs9:=UY (P:=P) (w:=w) (base:=base) T.Zs2 Zsu (fun F=>Zsm T F)
 have Zr0:=UY (P:=P) (w:=w) (base:=base) T.Zsr Zsd (fun F=>ZrW T F)
 have Zry:=Zhj (P:=P) (w:=w) (base:=base) T.Zsp Zsb (fun F=>ZrU T F)
 have Zsh:=UY (P:=P) (w:=w) (base:=base) T.Zsa ZrP (fun F=>ZrH T F)
 have ZsA:=UY (P:=P) (w:=w) (base:=base) T.Zs3 Zsv (fun F=>Zsn T F)
 have ZrR:=UY (P:=P) (w:=w) (base:=base) T.ZrK ZrA (fun F=>Zr5 T F)
 have ZqD:=UY (P:=P) (w:=w) (base:=base) T.Zq6 Zqp (fun F=>Zqo T F)
 have Zpv:=UY (P:=P) (w:=w) (base:=base) T.Zqr Zqh (fun F=>ZpY T F)
 refine F.okP Zph rfl rfl (fun cdv A outer s H E hr=>?_)
 have hu:=hr.units
 refine⟨_,_,⟨[],[],[],.P⟩,rfl,(Zd (UW (Zy ZsB (hr.mono (by decide)) rfl (Za (pv 0) Ze)) (Zid rfl (Qn (ZN (i:=1) Zph.nd rfl (by first|exact Or.inl rfl|exact Or.inr rfl)) (Qn (ZN (i:=2) Zph.nd rfl (by first|exact Or.inl rfl|exact Or.inr rfl)) Zfg))))
   (Zd (Z5 (i:=3) Zph.nd rfl (by first|exact Or.inl rfl|exact Or.inr rfl) (Zy Zs9 (hr.mono (by decide)) rfl (Za (pv 0) (Za Zl (Za (Z6 UP Zl (pv 2)) (Za (pv 1) (Za (UO (Zao (K:=K) hu) (Z6 Jg (Z6 JW (Zy Zpv (hr.mono (by decide)) rfl (Za (pv 0) (Za Zl Ze))) Zl) Zl) Zl (ZK _)) Ze)))))))
   (Zd (Z5 (i:=4) Zph.nd rfl (by first|exact Or.inl rfl|exact Or.inr rfl) (Zy Zr0 (hr.mono (by decide)) rfl (Za (ZaG (ZaC (K:=K)) (pv 3) Zcl (Zck (pv 2))) (Za (pv 1) Ze))))
   (Zd (Z5 (i:=5) Zph.nd rfl (by first|exact Or.inl rfl|exact Or.inr rfl) (Zy Zr0 (hr.mono (by decide)) rfl (Za (ZaG (ZaC (K:=K)) (pv 3) (Zck (pv 2)) Zcl) (Za (pv 1) Ze))))
   (Zd (Z5 (i:=6) Zph.nd rfl (by first|exact Or.inl rfl|exact Or.inr rfl) (JV (Za (ZC (J3 (K:=K)) rfl T.z_list J4 (Za (pv 4) Ze)) (Za (ZC (J3 (K:=K)) rfl T.z_list J4 (Za (pv 5) Ze)) Ze))))
   (Zd (Z5 (i:=7) Zph.nd rfl (by first|exact Or.inl rfl|exact Or.inr rfl) (VN Zry (hr.mono (by decide)) rfl Zfk (Za (ZI (Zq (K:=K)) (pv 6) Zl (fun _ _=>rfl)) (Za (ZI (Zq (K:=K)) (pv 6) Zl (fun _ _=>rfl)) Ze))))
   (Zd (J5 (PW.pt (VC (Z9 (Vf (K:=K) hu) (pv 6) (JV (Za (pv 4) (Za (pv 5) Ze))) (ZK _)) (VC (JO (JE (Zo (ZV (K:=K) (n := "tuple") rfl) rfl T.z_isinstance Zz (Za (pv 7) (Za (Jv (v:=.ty "tuple") rfl T.z_tuple ZdV rfl) Ze))))) (Ua (Z9 (Vf (K:=K) hu) (Zo (Z3 (K:=K)) rfl T.z_len Jk (Za (pv 7) Ze)) Zl (ZK _)))))) (Zj (Z0 Vs)) ZB)
   (Zd (UW (pv 7) (Zid rfl (Qn (ZN (i:=8) Zph.nd rfl (by first|exact Or.inl rfl|exact Or.inr rfl)) (Qn (ZN (i:=9) Zph.nd rfl (by first|exact Or.inl rfl|exact Or.inr rfl)) Zfg))))
   (Zd (J5 (PW.pt (VC (Z9 (Vf (K:=K) hu) (Zy ZsA (hr.mono (by decide)) rfl (Za (pv 4) (Za (pv 8) Ze))) (pv 5) (ZK _)) (VC (JO (JE (Zo (ZV (K:=K) (n := "list") rfl) rfl T.z_isinstance Zz (Za (pv 9) (Za (Jv (v:=.ty "list") rfl T.z_list J4 rfl) Ze))))) (Ua (Z9 (Vf (K:=K) hu) (Zo (Z3 (K:=K)) rfl T.z_len Jk (Za (pv 9) Ze)) (Z6 J6 (Zo (Z3 (K:=K)) rfl T.z_len Jk (Za (pv 8) Ze)) Zl) (ZK _)))))) (Zj (Z0 Vs)) ZB)
   (Zd (Jt PassesOwn.never rfl (ZT (K:=K) (pv 9)) (ZN (i:=10) Zph.nd rfl (by first|exact Or.inl rfl|exact Or.inr rfl)) (Zj (J5 (JO (JE (Zy ZrR (hr.mono (by decide)) rfl (Za (pv 10) (Za (pv 1) (Za (pv 2) Ze)))))) (Zj (Z0 Vs)) ZB)))
   (Zd (J5 (PW.pt (VC (JO (JE (Zy ZqD (hr.mono (by decide)) rfl (Za (pv 9) (Za (pv 4) Ze))))) (Ua (Z9 (Zfx (K:=K) hu) (pv 5) (ZI (Zq (K:=K)) (pv 9) (Zk6 ZhT Zl) (fun _ _=>rfl)) rfl)))) (Zj (Z0 Vs)) ZB)
   (Zd (Z5 (i:=11) Zph.nd rfl (by first|exact Or.inl rfl|exact Or.inr rfl) (Uy (Za (ZC (J3 (K:=K)) rfl T.z_list J4 (Za (pv 8) Ze)) (Za (VM (ZT (K:=K) (pv 9)) (VD Zph.nd) (fun _ _ _ _=>Zak) (fun _ _ _ _=>(Qo (ZT (K:=K) (pv 12)) (fun _ _ _ _=>(ZC (J3 (K:=K)) rfl T.z_list J4 (Za (pv 13) Ze))) (show List.Nodup (α:=Str) ["script", "pits", "seeds", "row", "board", "other", "handed", "told", "plan", "levels", "", "kept", "level"] from by decide +kernel) rfl)) hv1 Zph.nd rfl) Ze))))
   (Zd (Jq (ZaI PySem.F.plainAttrs_list PySem.F.slot_list_append PySem.F.type_list_append Jr (pv 8) (Za (Uy (Za Zaj (Za Zl Ze))) Ze)))
   (Zd (J5 (JO (JE (Zy Zsh (hr.mono (by decide)) rfl (Za (pv 9) (Za (ZI (Zq (K:=K)) (pv 11) Zl (fun _ _=>rfl)) Ze))))) (Zj (Z0 Vs)) ZB)
   (Zj (Z0 (Zdu (UO (Zao (K:=K) hu) (VN Zry (hr.mono (by decide)) rfl Zfk (Za (ZI (Zq (K:=K)) (pv 6) Zl (fun _ _=>rfl)) (Za (ZI (Zq (K:=K)) (pv 6) Zl (fun _ _=>rfl)) Ze))) (pv 11) (ZK _)) (Zdt (UO (Zao (K:=K) hu) (pv 6) (JV (Za (pv 4) (Za (pv 5) Ze))) (ZK _)))))))))))))))))))),
   (Zm (Γm:=[.S,.P,.P,.U,.U,.U,.U,.U,.U,.U,.U,.U]) (ZfT (DE.PF (Ze9 (Zi Zv) (Zb (Zc (i:=0) (m:=.S) rfl (by decide)) Zf))) (ZfY (n:=2) (U9 (Zlz (i:=1) (by decide)) (U9 (Zlz (i:=2) (by decide)) ZdK))))
   (Zm (Γm:=[.S,.P,.P,.O,.U,.U,.U,.U,.U,.U,.U,.U]) (Je (i:=3) (Zg6 (Zi (Zi (Zi (Zi (Zi Zv))))) (Zb (Zc (i:=0) (m:=.S) rfl (by decide)) (Zb (DE.toA Zk) (Zb (DE.toA (Za0 (DE.toA Zk) (DE.toA (Zh (i:=2) rfl)))) (Zb (DE.toA (Zh (i:=1) rfl)) (Zb (DE.toA (Js (g:=id) (DE.toA (Ji (DE.toA (Qb (DE.toA (Ze9 (Zi (Zi Zv)) (Zb (Zc (i:=0) (m:=.S) rfl (by decide)) (Zb (DE.toA Zk) Zf)))) (DE.toA Zk))) (DE.toA Zk))) (DE.toA Zk))) Zf)))))) (by decide))
   (Zm (Γm:=[.S,.P,.P,.O,.O,.U,.U,.U,.U,.U,.U,.U]) (Je (i:=4) (Zg6 (Zi (Zi Zv)) (Zb (DE.toA (Zgd (Zc (i:=3) (m:=.O) rfl (by decide)) Zc9 (Zc8 (DE.toA (Zh (i:=2) rfl))))) (Zb (DE.toA (Zh (i:=1) rfl)) Zf))) (by decide))
   (Zm (Γm:=[.S,.P,.P,.O,.O,.O,.U,.U,.U,.U,.U,.U]) (Je (i:=5) (Zg6 (Zi (Zi Zv)) (Zb (DE.toA (Zgd (Zc (i:=3) (m:=.O) rfl (by decide)) (Zc8 (DE.toA (Zh (i:=2) rfl))) Zc9)) (Zb (DE.toA (Zh (i:=1) rfl)) Zf))) (by decide))
   (Zm (Γm:=[.S,.P,.P,.O,.O,.O,.O,.U,.U,.U,.U,.U]) (Je (i:=6) (Vz (ZM (V0 (Zb (Zc (i:=4) (m:=.O) rfl (by decide)) Zf)) (ZM (V0 (Zb (Zc (i:=5) (m:=.O) rfl (by decide)) Zf)) J0))) (by decide))
   (Zm (Γm:=[.S,.P,.P,.O,.O,.O,.O,.O,.U,.U,.U,.U]) (Je (i:=7) (ZmY (Zi (Zi Zv)) (Zb (Z4 (te:=tC .non) (Zc (i:=6) (m:=.O) rfl (by decide)) (DE.toA Zk)) (Zb (Z4 (te:=tC .non) (Zc (i:=6) (m:=.O) rfl (by decide)) (DE.toA Zk)) Zf))) (by decide))
   (Zm (Γm:=[.S,.P,.P,.O,.O,.O,.O,.O,.U,.U,.U,.U]) (JG (VI (Z7 (DE.toA (Js (g:=(!·)) (Zc (i:=6) (m:=.O) rfl (by decide)) (ZcD (Zb (Zc (i:=4) (m:=.O) rfl (by decide)) (Zb (Zc (i:=5) (m:=.O) rfl (by decide)) Zf)))))) (VI (JX (Zbf (DE.toA (Vj (Zc (i:=7) (m:=.O) rfl (by decide)))))) (Z7 (DE.toA (Js (g:=(!·)) (DE.toA (Jj (Zb (Zc (i:=7) (m:=.O) rfl (by decide)) Zf))) (DE.toA Zk))))))
   (Z8 V7)
   ZH)
   (Zm (Γm:=[.S,.P,.P,.O,.O,.O,.O,.U,.O,.O,.U,.U]) (ZfT (Vx (i:=7) rfl) (ZfY (n:=2) (U9 (Zl0 (i:=8) (by decide)) (U9 (Zl0 (i:=9) (by decide)) ZdK))))
   (Zm (Γm:=[.S,.P,.P,.O,.O,.O,.O,.U,.O,.O,.U,.U]) (JG (VI (Z7 (DE.toA (Js (g:=(!·)) (DE.toA (Zg6 (Zi (Zi Zv)) (Zb (Zc (i:=4) (m:=.O) rfl (by decide)) (Zb (Zc (i:=8) (m:=.O) rfl (by decide)) Zf)))) (Zc (i:=5) (m:=.O) rfl (by decide))))) (VI (JX (Zbf (DE.toA (Vj (Zc (i:=9) (m:=.O) rfl (by decide)))))) (Z7 (DE.toA (Js (g:=(!·)) (DE.toA (Jj (Zb (Zc (i:=9) (m:=.O) rfl (by decide)) Zf))) (DE.toA (JA (DE.toA (Jj (Zb (Zc (i:=8) (m:=.O) rfl (by decide)) Zf))) (DE.toA Zk))))))))
   (Z8 V7)
   ZH)
   (Zm (Γm:=[.S,.P,.P,.O,.O,.O,.O,.U,.O,.O,.U,.U]) (Zez (i:=9) (l:=10) rfl rfl (by decide) (JX (Zbf (DE.toA (Ze9 (Zi (Zi (Zi Zv))) (Zb (Zc (i:=10) (m:=.S) rfl (by decide)) (Zb (DE.toA (Zh (i:=1) rfl)) (Zb (DE.toA (Zh (i:=2) rfl)) Zf))))))))
   (Zm (Γm:=[.S,.P,.P,.O,.O,.O,.O,.U,.O,.O,.U,.U]) (JG (VI (JX (Zbf (DE.toA (Ze9 (Zi (Zi Zv)) (Zb (Zc (i:=9) (m:=.O) rfl (by decide)) (Zb (Zc (i:=4) (m:=.O) rfl (by decide)) Zf)))))) (Z7 (DE.toA (Zl7 (g:=(!·)) (Zc (i:=5) (m:=.O) rfl (by decide)) (Z4 (te:=tC .non) (Zc (i:=9) (m:=.O) rfl (by decide)) (DE.toA (Zl4 (DE.toA Zk))))))))
   (Z8 V7)
   ZH)
   (Zm (Γm:=[.S,.P,.P,.O,.O,.O,.O,.U,.O,.O,.U,.O]) (Je (i:=11) (ZaU (ZM (V0 (Zb (Zc (i:=8) (m:=.O) rfl (by decide)) Zf)) (ZM (QU (i:=9) rfl ZbJ (VU (DI.c (Jz (Vb (i:=12) rfl))) (V0 (Zb (Zc (i:=13) (m:=.S) rfl (by decide)) Zf)))) J0))) (by decide))
   (Zm (Γm:=[.S,.P,.P,.O,.O,.O,.O,.U,.O,.O,.U,.O]) (QR (i:=8) rfl rfl (DE.PF (DE.grd (QS (Zb (DE.toA Zay) (Zb (DE.toA Zk) Zf))))))
   (Zm (Γm:=[.S,.P,.P,.O,.O,.O,.O,.U,.O,.U,.U,.S]) (Zlw (Zjy (Zh6 (i:=9) rfl (Zi Zv) (ZhG (Zir (te:=tC .non) (Zj7 (i:=11) (m:=.O) rfl (by decide)) (DE.toA Zk)) Zgh)))
   (Z8 V7)
   ZH)
   (Z8 (ZdP (DE.toA (Js (g:=id) (DE.toA (ZmY (Zi (Zi Zv)) (Zb (Z4 (te:=tC .non) (Zc (i:=6) (m:=.O) rfl (by decide)) (DE.toA Zk)) (Zb (Z4 (te:=tC .non) (Zc (i:=6) (m:=.O) rfl (by decide)) (DE.toA Zk)) Zf)))) (Zc (i:=11) (m:=.S) rfl (by decide)))) (Js (g:=id) (Zc (i:=6) (m:=.O) rfl (by decide)) (ZcD (Zb (Zc (i:=4) (m:=.O) rfl (by decide)) (Zb (Zc (i:=5) (m:=.O) rfl (by decide)) Zf)))))))))))))))))))), ?_⟩
 refine Pm.ref ZqE (g:=fun xs=>_) ?_
 intro (ns:List Int) (hn:ns.length<=63)
 simp only[ZqE]
 walk_at "pd"
 rw[Zp0]
 walk_at "pd"
 obtain⟨p2,p10,s0,s40,hcb⟩:=Zm5 (JY ns 0)
 generalize fwP (JY ns 0)=m at p2 p10 hcb
 generalize fwS (JY ns 0)=s at s0 s40 hcb
 obtain⟨n,rfl⟩:∃n:Nat,m=n:=⟨m.toNat,by omega⟩
 rw[Zoh (by omega)]
 walk_at "pd"
 rw[Zpy ⟨by omega,⟨by omega,by omega⟩,⟨by omega,by omega⟩,by omega,by omega⟩]
 have hrl:(ZgM ns 2 (2*s) n (decide (JY ns 0/2%2=1))).length=(2*s).toNat:=Zch ..
 have hrb:=ZiF ns 2 (2*s) (base:=(n:Int)) (by omega) (decide (JY ns 0/2%2=1))
 generalize ZgM ns 2 (2*s) n (decide (JY ns 0/2%2=1))=row at hrl hrb
 walk_at "pd"
 rw[ZoN ⟨fun x hx=>hrb x (Ztt hx),by omega,by omega⟩,Ztr]
 have B:Bs n s (lyI n (row.take s.toNat)):=by
  have:=Zje (n:=n) (L:=row.take s.toNat) fun x hx=>hrb x (Ztt hx)
  rw[Ztk,hrl,show ((min s.toNat (2*s).toNat:Nat):Int)=s by omega] at this
  exact this
 generalize lyI n (row.take s.toNat)=b at B
 walk_at "pd"
 rw[ZoN ⟨fun x hx=>hrb x (Zty hx),by omega,by omega⟩,Ztr]
 have O:Bs n s (lyI n (row.drop s.toNat)):=by
  have:=Zje (n:=n) (L:=row.drop s.toNat) fun x hx=>hrb x (Zty hx)
  rw[ZtL,hrl,show (((2*s).toNat-s.toNat:Nat):Int)=s by omega] at this
  exact this
 generalize lyI n (row.drop s.toNat)=o at O
 have L:=Znn (by omega) (by omega) (by omega) B O hcb
 have bl:=B.1
 have ol:=O.1
 walk_at "pd"
 have hx0:pIx (.lst [.lst (b.map PV.int),.lst (o.map PV.int)]) (.int 0)=.ok (.lst (b.map PV.int)):=rfl
 have hx1:pIx (.lst [.lst (b.map PV.int),.lst (o.map PV.int)]) (.int 1)=.ok (.lst (o.map PV.int)):=rfl
 have hE:∀g:Bool->Bool,Zam g (.lst [.lst (b.map PV.int),.lst (o.map PV.int)]) (.lst [.lst (b.map PV.int),.lst (o.map PV.int)])=.ok (.bl (g true)):=fun g=>by
  have:=Qr (g:=g) [b,o] [b,o]
  rw[decide_eq_true rfl] at this
  exact this
 rw[hx0,hx1]
 walk_at "pd"
 rw[ZoL L.lw]
 walk_at "pd"
 rw[hE]
 walk_at "pd"
 rw[Zpz ⟨L.led,by omega⟩,L.to]
 walk_at "pd"
 have hN:=L.n
 have hll:(lwL b o).length=goN (Jc b.length) b o+1:=by simp[lwL]
 rw[VO,VO,ZsV,ZsV,L.len,hll]
 walk_at "pd"
 rw[decide_eq_true (show ((goN (Jc b.length) b o+1:Nat):Int)=(goN (Jc b.length) b o:Nat)+1 by omega)]
 walk_at "pd"
 obtain⟨F,R,_,_⟩:=L.lw.fw
 obtain⟨g1,g2,g3,g4,g5⟩:=ZfN F R
 have hlv:∀q∈lwL b o,ZhR q n s:=fun q hq=>by
  unfold lwL at hq
  obtain⟨i,hi,rfl⟩:=Ztm.mp hq
  have hi:=Ztv.mp hi
  have hle:=F.le i
  refine⟨fun z=>g5 i (by omega) (List.length_eq_zero_iff.mp (by rw[<- (ZA _).length_eq,z];rfl)),fun x hx=>?_,Zce (ZcY _ b i), ?_,by omega,by omega⟩
  ·have:=((JZ _ b i).re x ((JZ _ b i).sub x ((ZA _).mem_iff.mp hx))).bs F.hP F.hb
   rw[B.2.2,bl] at this
   exact this
  ·rw[(ZA _).length_eq]
   exact F.lvl i
 generalize hw:Uo _ _ _=W
 obtain⟨ρ',rfl,v,rfl⟩:=ZF hw (fun i ρ=>∃v,ρ=[.lst (ns.map PV.int),.int n,.int s,.lst (row.map PV.int),.lst (b.map PV.int),.lst (o.map PV.int),.lst [.lst (b.map PV.int),.lst (o.map PV.int)],.tup [.lst ((lwP b o).map ZcC),.lst ((lwL b o).map llQ)],.lst ((lwP b o).map ZcC),.lst ((lwL b o).map llQ),v,.non]) ⟨_,rfl⟩ (by
  rintro i x ρ hx ⟨v,rfl⟩
  rw[Ztf] at hx
  obtain⟨q,hq,rfl⟩:=Zt1.mp hx
  walk_at "pd"
  rw[ZoG (hlv q (ZsQ hq))]
  walk_at "pd"
  exact Vg ⟨_,rfl⟩)
 walk_at "pd"
 have hlr:(lwL b o).map llQ=lrQ b (goN (Jc b.length) b o):=by unfold lwL lrQ;rw[Zt6];rfl
 have hr:Zn1.fn [.lst ((lwL b o).map llQ),.lst (b.map PV.int)]=.ok (.bl true):=by
  rw[hlr]
  exact ZnK ⟨F,by omega,by omega,hN⟩
 have hlast:pIx (.lst ((lwL b o).map llQ)) (.int (-1))=.ok (llQ (V3 (wk (Jc b.length) b (goN (Jc b.length) b o)).1)):=by
  unfold lwL
  rw[Zt6,Zux,ZtI]
  exact Zbz
 have hin:o∈V3 (wk (Jc b.length) b (goN (Jc b.length) b o)).1:=(ZA _).mem_iff.mpr g4
 rw[hr]
 walk_at "pd"
 rw[hlast]
 walk_at "pd"
 rw[show llQ (V3 (wk (Jc b.length) b (goN (Jc b.length) b o)).1)=.lst ((V3 (wk (Jc b.length) b (goN (Jc b.length) b o)).1).map fun q=>.lst (q.map PV.int)) from rfl,Zel,decide_eq_true hin]
 walk_at "pd"
 rw[show Zcp [PV.lst ((lwP b o).map ZcC)]=.ok (.lst ((lwP b o).map ZcC)) from Zih (q:=ZcC) (fun _=>rfl) (by rw[L.len];omega)]
 walk_at "pd"
 rw[ZfS (q:=llQ) (p:=fun _=>true) (g:=llQ) (fun q hq=>by
  have hq2:=(hlv q hq).sz
  unfold llQ
  walk_at "pd"
  rw[ZaN (g:=id) (fun x hx=>by
   obtain⟨y,hy,rfl⟩:=Ztm.mp hx
   have:=((hlv q hq).bs y hy).1
   exact Zal (by omega)),ZuJ]
  rfl),Zuq.mpr (fun _ _=>rfl)]
 walk_at "pd"
 rw[Vt (by rw[ZsV,L.len];omega)]
 walk_at "pd"
 rw[ZoW ⟨by rw[hll];omega,fun q hq=>(hlv q hq).sz,fun q hq x hx=>by have:=((hlv q hq).bs x hx).1;omega⟩]
 walk_at "pd"
 rw[hx0,hx1]
 walk_at "pd"
 rw[ZoL L.lw]
 walk_at "pd"
 rw[Zhb (n:=4) (Zgi fun y hy=>by
  simp only[ZsZ,ZuU,or_false] at hy
  rcases hy with rfl|rfl
  ·refine(ZaX (n:=1) fun x hx=>?_).up (by decide)
   obtain⟨p,_,rfl⟩:=Ztm.mp hx
   refine Zgi fun y hy=>?_
   simp only[ZsZ,ZuU,or_false] at hy
   rcases hy with rfl|rfl
   ·exact ZjB (by rw[PyData.canLay0];decide +kernel)
   ·exact Zgj _
  ·refine ZaX fun x hx=>?_
   obtain⟨q,_,rfl⟩:=Ztm.mp hx
   exact ZaW q)]
 walk_at "pd"
 rw[hE]
 rfl
theorem ZsG {ns:List Int} (h:ns.length<=63):ZqE.fn [.lst (ns.map PV.int)]=.ok (.bl true):=Pm.fn_eq ZqE ns h (fun _ _=>rfl)
noncomputable def ZeN (K:W.Frag):Sp:=spF K 1 .P W0 ZqE.fn
theorem ZkX {l:PySem.W.OpenLaw} (T:Txt K mg) {fa:Addr} (hmg:mg "law"=some (.ref fa)):∃fd:FuncData,(∀(s:Shared) (u:Value),BindsTo s fd ⟨[u],[]⟩ [("script",u)]) /\
  ∀base:Heap,K.In base->base.Ns mainGlobals mg->JT l.prog w K mg base CX0 7 fa fd ["script"] (ZeN K):=by
 obtain⟨f,fd,F,hm⟩:=T.ZsN
 rw[hmg] at hm
 cases hm
 refine⟨fd,fun s u=>?_,fun base _ _=>ZsL T F⟩
 obtain⟨oc,od,kV,doc,pm,an,cdv,ct,osl,rfl,lk,hcd⟩:=F.ex
 exact .of_eq (ZsM kV doc pm an cdv ct [u] rfl)
theorem ZfB {H:Hp}{a:Addr}{ns:List Int} (hl:ns.length<=63) (hO:ZlK H) (hS:SqL K H a (ns.map V.int)):ZeN K [.ref a] H (fun v _=>v=.bl true) fun _ _ _=>False:=
 Zes (Pm.fn_eq ZqE ns hl fun _ _=>rfl) hS
end
theorem Zke {K:W.Frag}{h:Heap}{mg:Str->Option Value}{Zpr Zpq ZqW Zq3 ZqU Zq5 ZqS Zpd Zos Zqb ZqT ZpC ZpD Zpp ZoE Zrq Zrp ZpZ Zqa Zpc Zq2 Zqc Zq4 ZqV ZpE ZpF Zo1 ZsJ:Addr} (X:K.In h) (G:h.Ns mainGlobals mg)
  {od__law_cell_at an__law_cell_at:Option Addr}{sl__law_cell_at:Array (Option Value)}{oc__law_cell_at kV__law_cell_at dc__law_cell_at ZnC cd__law_cell_at ct__law_cell_at:Value}
  {od__law_stirred an__law_stirred:Option Addr}{sl__law_stirred:Array (Option Value)}{oc__law_stirred kV__law_stirred dc__law_stirred ZnB cd__law_stirred ct__law_stirred:Value}
  {od__law_few an__law_few:Option Addr}{sl__law_few:Array (Option Value)}{oc__law_few kV__law_few dc__law_few Zop cd__law_few ct__law_few:Value}
  {od__law_sums an__law_sums:Option Addr}{sl__law_sums:Array (Option Value)}{oc__law_sums kV__law_sums dc__law_sums Zoa cd__law_sums ct__law_sums:Value}
  {od__law_row an__law_row:Option Addr}{sl__law_row:Array (Option Value)}{oc__law_row kV__law_row dc__law_row Zon cd__law_row ct__law_row:Value}
  {od__law_laid an__law_laid:Option Addr}{sl__law_laid:Array (Option Value)}{oc__law_laid kV__law_laid dc__law_laid Zoc cd__law_laid ct__law_laid:Value}
  {od_is_whole an_is_whole:Option Addr}{sl_is_whole:Array (Option Value)}{oc_is_whole kV_is_whole dc_is_whole Zoy cd_is_whole ct_is_whole:Value}
  {od_is_whole_from an_is_whole_from:Option Addr}{sl_is_whole_from:Array (Option Value)}{oc_is_whole_from kV_is_whole_from dc_is_whole_from Zn8 cd_is_whole_from ct_is_whole_from:Value}
  {od_is_list_from_nought an_is_list_from_nought:Option Addr}{sl_is_list_from_nought:Array (Option Value)}{oc_is_list_from_nought kV_is_list_from_nought dc_is_list_from_nought Znz cd_is_list_from_nought ct_is_list_from_nought:Value}
  {od_most_seeds an_most_seeds:Option Addr}{sl_most_seeds:Array (Option Value)}{oc_most_seeds kV_most_seeds dc_most_seeds Zoe cd_most_seeds ct_most_seeds:Value}
  {od_is_board an_is_board:Option Addr}{sl_is_board:Array (Option Value)}{oc_is_board kV_is_board dc_is_board ZnS cd_is_board ct_is_board:Value}
  {od_check_board an_check_board:Option Addr}{sl_check_board:Array (Option Value)}{oc_check_board kV_check_board dc_check_board ZnH cd_check_board ct_check_board:Value}
  {od_check_alike an_check_alike:Option Addr}{sl_check_alike:Array (Option Value)}{oc_check_alike kV_check_alike dc_check_alike ZnI cd_check_alike ct_check_alike:Value}
  {od_count_boards an_count_boards:Option Addr}{sl_count_boards:Array (Option Value)}{oc_count_boards kV_count_boards dc_count_boards Zn6 cd_count_boards ct_count_boards:Value}
  {od_check_few_boards an_check_few_boards:Option Addr}{sl_check_few_boards:Array (Option Value)}{oc_check_few_boards kV_check_few_boards dc_check_few_boards Zn3 cd_check_few_boards ct_check_few_boards:Value}
  {od_plan_to an_plan_to:Option Addr}{sl_plan_to:Array (Option Value)}{oc_plan_to kV_plan_to dc_plan_to Zog cd_plan_to ct_plan_to:Value}
  {od_sow_pit an_sow_pit:Option Addr}{sl_sow_pit:Array (Option Value)}{oc_sow_pit kV_sow_pit dc_sow_pit ZoA cd_sow_pit ct_sow_pit:Value}
  {od_sowings_of an_sowings_of:Option Addr}{sl_sowings_of:Array (Option Value)}{oc_sowings_of kV_sowings_of dc_sowings_of ZnP cd_sowings_of ct_sowings_of:Value}
  {od_next_level an_next_level:Option Addr}{sl_next_level:Array (Option Value)}{oc_next_level kV_next_level dc_next_level ZnQ cd_next_level ct_next_level:Value}
  {od_rising_boards an_rising_boards:Option Addr}{sl_rising_boards:Array (Option Value)}{oc_rising_boards kV_rising_boards dc_rising_boards Zn4 cd_rising_boards ct_rising_boards:Value}
  {od_least_way an_least_way:Option Addr}{sl_least_way:Array (Option Value)}{oc_least_way kV_least_way dc_least_way ZnZ cd_least_way ct_least_way:Value}
  {od__law_apart an__law_apart:Option Addr}{sl__law_apart:Array (Option Value)}{oc__law_apart kV__law_apart dc__law_apart Zof cd__law_apart ct__law_apart:Value}
  {od__law_sown an__law_sown:Option Addr}{sl__law_sown:Array (Option Value)}{oc__law_sown kV__law_sown dc__law_sown Zob cd__law_sown ct__law_sown:Value}
  {od__law_led an__law_led:Option Addr}{sl__law_led:Array (Option Value)}{oc__law_led kV__law_led dc__law_led Zoo cd__law_led ct__law_led:Value}
  {od__law_boards an__law_boards:Option Addr}{sl__law_boards:Array (Option Value)}{oc__law_boards kV__law_boards dc__law_boards ZnT cd__law_boards ct__law_boards:Value}
  {od__law_behind an__law_behind:Option Addr}{sl__law_behind:Array (Option Value)}{oc__law_behind kV__law_behind dc__law_behind ZnJ cd__law_behind ct__law_behind:Value}
  {od__law_levels_right an__law_levels_right:Option Addr}{sl__law_levels_right:Array (Option Value)}{oc__law_levels_right kV__law_levels_right dc__law_levels_right Zn1 cd__law_levels_right ct__law_levels_right:Value}
  {od_law an_law:Option Addr}{sl_law:Array (Option Value)}{oc_law kV_law dc_law ZqE cd_law ct_law:Value}
  (Zpu:PySem.W.nsIn K mainGlobals "_law_cell_at"=some (some (.ref Zpr))) (Zpl:K.lookup Zpr=some ⟨oc__law_cell_at,od__law_cell_at,.func (PySem.W.fnOf "_law_cell_at" "_law_cell_at" (Z1 ZnG) (Zt ZnG) (Zg ZnG) .none kV__law_cell_at dc__law_cell_at ZnC an__law_cell_at cd__law_cell_at ct__law_cell_at),sl__law_cell_at⟩) (Zoh:PySem.W.codeIn K cd__law_cell_at "_law_cell_at"=true) (Zpo:PySem.W.keepIn K (.ref Zpr)=true)
  (Zpt:PySem.W.nsIn K mainGlobals "_law_stirred"=some (some (.ref Zpq))) (Zpk:K.lookup Zpq=some ⟨oc__law_stirred,od__law_stirred,.func (PySem.W.fnOf "_law_stirred" "_law_stirred" (Z1 ZnF) (Zt ZnF) (Zg ZnF) .none kV__law_stirred dc__law_stirred ZnB an__law_stirred cd__law_stirred ct__law_stirred),sl__law_stirred⟩) (ZnU:PySem.W.codeIn K cd__law_stirred "_law_stirred"=true) (Zpn:PySem.W.keepIn K (.ref Zpq)=true)
  (Zrb:PySem.W.nsIn K mainGlobals "_law_few"=some (some (.ref ZqW))) (ZqM:K.lookup ZqW=some ⟨oc__law_few,od__law_few,.func (PySem.W.fnOf "_law_few" "_law_few" (Z1 Zo9) (Zt Zo9) (Zg Zo9) .none kV__law_few dc__law_few Zop an__law_few cd__law_few ct__law_few),sl__law_few⟩) (Zp0:PySem.W.codeIn K cd__law_few "_law_few"=true) (ZqR:PySem.W.keepIn K (.ref ZqW)=true)
  (Zq9:PySem.W.nsIn K mainGlobals "_law_sums"=some (some (.ref Zq3))) (Zqu:K.lookup Zq3=some ⟨oc__law_sums,od__law_sums,.func (PySem.W.fnOf "_law_sums" "_law_sums" (Z1 Zok) (Zt Zok) (Zg Zok) .none kV__law_sums dc__law_sums Zoa an__law_sums cd__law_sums ct__law_sums),sl__law_sums⟩) (Zpe:PySem.W.codeIn K cd__law_sums "_law_sums"=true) (Zqy:PySem.W.keepIn K (.ref Zq3)=true)
  (ZqZ:PySem.W.nsIn K mainGlobals "_law_row"=some (some (.ref ZqU))) (ZqK:K.lookup ZqU=some ⟨oc__law_row,od__law_row,.func (PySem.W.fnOf "_law_row" "_law_row" (Z1 Zo7) (Zt Zo7) (Zg Zo7) .none kV__law_row dc__law_row Zon an__law_row cd__law_row ct__law_row),sl__law_row⟩) (Zpy:PySem.W.codeIn K cd__law_row "_law_row"=true) (ZqP:PySem.W.keepIn K (.ref ZqU)=true)
  (ZqB:PySem.W.nsIn K mainGlobals "_law_laid"=some (some (.ref Zq5))) (Zqw:K.lookup Zq5=some ⟨oc__law_laid,od__law_laid,.func (PySem.W.fnOf "_law_laid" "_law_laid" (Z1 Zom) (Zt Zom) (Zg Zom) .none kV__law_laid dc__law_laid Zoc an__law_laid cd__law_laid ct__law_laid),sl__law_laid⟩) (ZoN:PySem.W.codeIn K cd__law_laid "_law_laid"=true) (Zq0:PySem.W.keepIn K (.ref Zq5)=true)
  (ZqX:PySem.W.nsIn K mainGlobals "is_whole"=some (some (.ref ZqS))) (ZqI:K.lookup ZqS=some ⟨oc_is_whole,od_is_whole,.func (PySem.W.fnOf "is_whole" "is_whole" (Z1 Zo5) (Zt Zo5) (Zg Zo5) .none kV_is_whole dc_is_whole Zoy an_is_whole cd_is_whole ct_is_whole),sl_is_whole⟩) (Zpw:PySem.W.codeIn K cd_is_whole "is_whole"=true) (ZqN:PySem.W.keepIn K (.ref ZqS)=true)
  (Zpg:PySem.W.nsIn K mainGlobals "is_whole_from"=some (some (.ref Zpd))) (ZoZ:K.lookup Zpd=some ⟨oc_is_whole_from,od_is_whole_from,.func (PySem.W.fnOf "is_whole_from" "is_whole_from" (Z1 ZnA) (Zt ZnA) (Zg ZnA) .none kV_is_whole_from dc_is_whole_from Zn8 an_is_whole_from cd_is_whole_from ct_is_whole_from),sl_is_whole_from⟩) (Zou:PySem.W.codeIn K cd_is_whole_from "is_whole_from"=true) (Zpb:PySem.W.keepIn K (.ref Zpd)=true)
  (Zov:PySem.W.nsIn K mainGlobals "is_list_from_nought"=some (some (.ref Zos))) (Zoq:K.lookup Zos=some ⟨oc_is_list_from_nought,od_is_list_from_nought,.func (PySem.W.fnOf "is_list_from_nought" "is_list_from_nought" (Z1 Zn0) (Zt Zn0) (Zg Zn0) .none kV_is_list_from_nought dc_is_list_from_nought Znz an_is_list_from_nought cd_is_list_from_nought ct_is_list_from_nought),sl_is_list_from_nought⟩) (ZnD:PySem.W.codeIn K cd_is_list_from_nought "is_list_from_nought"=true) (Zor:PySem.W.keepIn K (.ref Zos)=true)
  (Zqk:PySem.W.nsIn K mainGlobals "most_seeds"=some (some (.ref Zqb))) (ZpR:K.lookup Zqb=some ⟨oc_most_seeds,od_most_seeds,.func (PySem.W.fnOf "most_seeds" "most_seeds" (Z1 ZnX) (Zt ZnX) (Zg ZnX) .none kV_most_seeds dc_most_seeds Zoe an_most_seeds cd_most_seeds ct_most_seeds),sl_most_seeds⟩) (ZoV:PySem.W.codeIn K cd_most_seeds "most_seeds"=true) (ZpV:PySem.W.keepIn K (.ref Zqb)=true)
  (ZqY:PySem.W.nsIn K mainGlobals "is_board"=some (some (.ref ZqT))) (ZqJ:K.lookup ZqT=some ⟨oc_is_board,od_is_board,.func (PySem.W.fnOf "is_board" "is_board" (Z1 Zo6) (Zt Zo6) (Zg Zo6) .none kV_is_board dc_is_board ZnS an_is_board cd_is_board ct_is_board),sl_is_board⟩) (Zpx:PySem.W.codeIn K cd_is_board "is_board"=true) (ZqO:PySem.W.keepIn K (.ref ZqT)=true)
  (ZpG:PySem.W.nsIn K mainGlobals "check_board"=some (some (.ref ZpC))) (Zp4:K.lookup ZpC=some ⟨oc_check_board,od_check_board,.func (PySem.W.fnOf "check_board" "check_board" (Z1 ZnL) (Zt ZnL) (Zg ZnL) .none kV_check_board dc_check_board ZnH an_check_board cd_check_board ct_check_board),sl_check_board⟩) (Zow:PySem.W.codeIn K cd_check_board "check_board"=true) (Zp8:PySem.W.keepIn K (.ref ZpC)=true)
  (ZpH:PySem.W.nsIn K mainGlobals "check_alike"=some (some (.ref ZpD))) (Zp5:K.lookup ZpD=some ⟨oc_check_alike,od_check_alike,.func (PySem.W.fnOf "check_alike" "check_alike" (Z1 ZnM) (Zt ZnM) (Zg ZnM) .none kV_check_alike dc_check_alike ZnI an_check_alike cd_check_alike ct_check_alike),sl_check_alike⟩) (ZoF:PySem.W.codeIn K cd_check_alike "check_alike"=true) (Zp9:PySem.W.keepIn K (.ref ZpD)=true)
  (Zps:PySem.W.nsIn K mainGlobals "count_boards"=some (some (.ref Zpp))) (Zpj:K.lookup Zpp=some ⟨oc_count_boards,od_count_boards,.func (PySem.W.fnOf "count_boards" "count_boards" (Z1 ZnE) (Zt ZnE) (Zg ZnE) .none kV_count_boards dc_count_boards Zn6 an_count_boards cd_count_boards ct_count_boards),sl_count_boards⟩) (Zox:PySem.W.codeIn K cd_count_boards "count_boards"=true) (Zpm:PySem.W.keepIn K (.ref Zpp)=true)
  (ZoI:PySem.W.nsIn K mainGlobals "check_few_boards"=some (some (.ref ZoE))) (ZoC:K.lookup ZoE=some ⟨oc_check_few_boards,od_check_few_boards,.func (PySem.W.fnOf "check_few_boards" "check_few_boards" (Z1 Zn5) (Zt Zn5) (Zg Zn5) .none kV_check_few_boards dc_check_few_boards Zn3 an_check_few_boards cd_check_few_boards ct_check_few_boards),sl_check_few_boards⟩) (ZnR:PySem.W.codeIn K cd_check_few_boards "check_few_boards"=true) (ZoD:PySem.W.keepIn K (.ref ZoE)=true)
  (Zrw:PySem.W.nsIn K mainGlobals "plan_to"=some (some (.ref Zrq))) (Zrl:K.lookup Zrq=some ⟨oc_plan_to,od_plan_to,.func (PySem.W.fnOf "plan_to" "plan_to" (Z1 ZoS) (Zt ZoS) (Zg ZoS) .none kV_plan_to dc_plan_to Zog an_plan_to cd_plan_to ct_plan_to),sl_plan_to⟩) (Zqf:PySem.W.codeIn K cd_plan_to "plan_to"=true) (Zrn:PySem.W.keepIn K (.ref Zrq)=true)
  (Zrv:PySem.W.nsIn K mainGlobals "sow_pit"=some (some (.ref Zrp))) (Zrk:K.lookup Zrp=some ⟨oc_sow_pit,od_sow_pit,.func (PySem.W.fnOf "sow_pit" "sow_pit" (Z1 ZoR) (Zt ZoR) (Zg ZoR) .none kV_sow_pit dc_sow_pit ZoA an_sow_pit cd_sow_pit ct_sow_pit),sl_sow_pit⟩) (Zqe:PySem.W.codeIn K cd_sow_pit "sow_pit"=true) (Zrm:PySem.W.keepIn K (.ref Zrp)=true)
  (Zqi:PySem.W.nsIn K mainGlobals "sowings_of"=some (some (.ref ZpZ))) (ZpP:K.lookup ZpZ=some ⟨oc_sowings_of,od_sowings_of,.func (PySem.W.fnOf "sowings_of" "sowings_of" (Z1 ZnV) (Zt ZnV) (Zg ZnV) .none kV_sowings_of dc_sowings_of ZnP an_sowings_of cd_sowings_of ct_sowings_of),sl_sowings_of⟩) (ZoT:PySem.W.codeIn K cd_sowings_of "sowings_of"=true) (ZpT:PySem.W.keepIn K (.ref ZpZ)=true)
  (Zqj:PySem.W.nsIn K mainGlobals "next_level"=some (some (.ref Zqa))) (ZpQ:K.lookup Zqa=some ⟨oc_next_level,od_next_level,.func (PySem.W.fnOf "next_level" "next_level" (Z1 ZnW) (Zt ZnW) (Zg ZnW) .none kV_next_level dc_next_level ZnQ an_next_level cd_next_level ct_next_level),sl_next_level⟩) (ZoU:PySem.W.codeIn K cd_next_level "next_level"=true) (ZpU:PySem.W.keepIn K (.ref Zqa)=true)
  (Zpf:PySem.W.nsIn K mainGlobals "rising_boards"=some (some (.ref Zpc))) (ZoY:K.lookup Zpc=some ⟨oc_rising_boards,od_rising_boards,.func (PySem.W.fnOf "rising_boards" "rising_boards" (Z1 Zn9) (Zt Zn9) (Zg Zn9) .none kV_rising_boards dc_rising_boards Zn4 an_rising_boards cd_rising_boards ct_rising_boards),sl_rising_boards⟩) (Zot:PySem.W.codeIn K cd_rising_boards "rising_boards"=true) (Zpa:PySem.W.keepIn K (.ref Zpc)=true)
  (Zq8:PySem.W.nsIn K mainGlobals "least_way"=some (some (.ref Zq2))) (Zqt:K.lookup Zq2=some ⟨oc_least_way,od_least_way,.func (PySem.W.fnOf "least_way" "least_way" (Z1 Zoj) (Zt Zoj) (Zg Zoj) .none kV_least_way dc_least_way ZnZ an_least_way cd_least_way ct_least_way),sl_least_way⟩) (ZoL:PySem.W.codeIn K cd_least_way "least_way"=true) (Zqx:PySem.W.keepIn K (.ref Zq2)=true)
  (Zql:PySem.W.nsIn K mainGlobals "_law_apart"=some (some (.ref Zqc))) (ZpS:K.lookup Zqc=some ⟨oc__law_apart,od__law_apart,.func (PySem.W.fnOf "_law_apart" "_law_apart" (Z1 ZnY) (Zt ZnY) (Zg ZnY) .none kV__law_apart dc__law_apart Zof an__law_apart cd__law_apart ct__law_apart),sl__law_apart⟩) (ZoW:PySem.W.codeIn K cd__law_apart "_law_apart"=true) (ZpW:PySem.W.keepIn K (.ref Zqc)=true)
  (ZqA:PySem.W.nsIn K mainGlobals "_law_sown"=some (some (.ref Zq4))) (Zqv:K.lookup Zq4=some ⟨oc__law_sown,od__law_sown,.func (PySem.W.fnOf "_law_sown" "_law_sown" (Z1 Zol) (Zt Zol) (Zg Zol) .none kV__law_sown dc__law_sown Zob an__law_sown cd__law_sown ct__law_sown),sl__law_sown⟩) (ZoM:PySem.W.codeIn K cd__law_sown "_law_sown"=true) (Zqz:PySem.W.keepIn K (.ref Zq4)=true)
  (Zra:PySem.W.nsIn K mainGlobals "_law_led"=some (some (.ref ZqV))) (ZqL:K.lookup ZqV=some ⟨oc__law_led,od__law_led,.func (PySem.W.fnOf "_law_led" "_law_led" (Z1 Zo8) (Zt Zo8) (Zg Zo8) .none kV__law_led dc__law_led Zoo an__law_led cd__law_led ct__law_led),sl__law_led⟩) (Zpz:PySem.W.codeIn K cd__law_led "_law_led"=true) (ZqQ:PySem.W.keepIn K (.ref ZqV)=true)
  (ZpI:PySem.W.nsIn K mainGlobals "_law_boards"=some (some (.ref ZpE))) (Zp6:K.lookup ZpE=some ⟨oc__law_boards,od__law_boards,.func (PySem.W.fnOf "_law_boards" "_law_boards" (Z1 ZnN) (Zt ZnN) (Zg ZnN) .none kV__law_boards dc__law_boards ZnT an__law_boards cd__law_boards ct__law_boards),sl__law_boards⟩) (ZoG:PySem.W.codeIn K cd__law_boards "_law_boards"=true) (ZpA:PySem.W.keepIn K (.ref ZpE)=true)
  (ZpJ:PySem.W.nsIn K mainGlobals "_law_behind"=some (some (.ref ZpF))) (Zp7:K.lookup ZpF=some ⟨oc__law_behind,od__law_behind,.func (PySem.W.fnOf "_law_behind" "_law_behind" (Z1 ZnO) (Zt ZnO) (Zg ZnO) .none kV__law_behind dc__law_behind ZnJ an__law_behind cd__law_behind ct__law_behind),sl__law_behind⟩) (ZoH:PySem.W.codeIn K cd__law_behind "_law_behind"=true) (ZpB:PySem.W.keepIn K (.ref ZpF)=true)
  (Zo2:PySem.W.nsIn K mainGlobals "_law_levels_right"=some (some (.ref Zo1))) (Zoz:K.lookup Zo1=some ⟨oc__law_levels_right,od__law_levels_right,.func (PySem.W.fnOf "_law_levels_right" "_law_levels_right" (Z1 Zn2) (Zt Zn2) (Zg Zn2) .none kV__law_levels_right dc__law_levels_right Zn1 an__law_levels_right cd__law_levels_right ct__law_levels_right),sl__law_levels_right⟩) (ZnK:PySem.W.codeIn K cd__law_levels_right "_law_levels_right"=true) (Zo0:PySem.W.keepIn K (.ref Zo1)=true)
  (ZsK:PySem.W.nsIn K mainGlobals "law"=some (some (.ref ZsJ))) (ZsH:K.lookup ZsJ=some ⟨oc_law,od_law,.func (PySem.W.fnOf "law" "law" (Z1 ZrT) (Zt ZrT) (Zg ZrT) .none kV_law dc_law ZqE an_law cd_law ct_law),sl_law⟩) (ZsG:PySem.W.codeIn K cd_law "law"=true) (ZsI:PySem.W.keepIn K (.ref ZsJ)=true)
  {t_FEWEST_PITS:Tok} (a_FEWEST_PITS:PySem.W.nsIn K mainGlobals "FEWEST_PITS"=some (some (.int 2 t_FEWEST_PITS)))
  {t_MOST_BOARDS:Tok} (a_MOST_BOARDS:PySem.W.nsIn K mainGlobals "MOST_BOARDS"=some (some (.int 1000 t_MOST_BOARDS)))
  {t_MOST_PITS:Tok} (a_MOST_PITS:PySem.W.nsIn K mainGlobals "MOST_PITS"=some (some (.int 24 t_MOST_PITS)))
  (z_all:PySem.W.nsIn K mainGlobals "all"=some none)
  (z_bool:PySem.W.nsIn K mainGlobals "bool"=some none)
  (z_int:PySem.W.nsIn K mainGlobals "int"=some none)
  (z_isinstance:PySem.W.nsIn K mainGlobals "isinstance"=some none)
  (z_len:PySem.W.nsIn K mainGlobals "len"=some none)
  (z_list:PySem.W.nsIn K mainGlobals "list"=some none)
  (z_max:PySem.W.nsIn K mainGlobals "max"=some none)
  (z_min:PySem.W.nsIn K mainGlobals "min"=some none)
  (z_range:PySem.W.nsIn K mainGlobals "range"=some none)
  (z_sorted:PySem.W.nsIn K mainGlobals "sorted"=some none)
  (z_sum:PySem.W.nsIn K mainGlobals "sum"=some none)
  (z_tuple:PySem.W.nsIn K mainGlobals "tuple"=some none)
  (x_tab:ZmK K XN XS=true) (x_exc:Ziz K XR=true)
  :Txt K mg:=by
 refine⟨?_, ?_, ?_, ?_, ?_, ?_, ?_, ?_, ?_, ?_, ?_, ?_, ?_, ?_, ?_, ?_, ?_, ?_, ?_, ?_, ?_, ?_, ?_, ?_, ?_, ?_, ?_, ?_, ?_, ?_, ?_, ?_, ?_, ?_, ?_, ?_, ?_, ?_, ?_, ?_, ?_, ?_, ?_,x_tab,x_exc,fun n C e=>PySem.W.mg_of X G e⟩
 ·exact⟨_,_,ZS (st:=ZnG) Zpl Zoh Zpo,PySem.W.mg_of X G Zpu⟩
 ·exact⟨_,_,ZS (st:=ZnF) Zpk ZnU Zpn,PySem.W.mg_of X G Zpt⟩
 ·exact⟨_,_,ZS (st:=Zo9) ZqM Zp0 ZqR,PySem.W.mg_of X G Zrb⟩
 ·exact⟨_,_,ZS (st:=Zok) Zqu Zpe Zqy,PySem.W.mg_of X G Zq9⟩
 ·exact⟨_,_,ZS (st:=Zo7) ZqK Zpy ZqP,PySem.W.mg_of X G ZqZ⟩
 ·exact⟨_,_,ZS (st:=Zom) Zqw ZoN Zq0,PySem.W.mg_of X G ZqB⟩
 ·exact⟨_,_,ZS (st:=Zo5) ZqI Zpw ZqN,PySem.W.mg_of X G ZqX⟩
 ·exact⟨_,_,ZS (st:=ZnA) ZoZ Zou Zpb,PySem.W.mg_of X G Zpg⟩
 ·exact⟨_,_,ZS (st:=Zn0) Zoq ZnD Zor,PySem.W.mg_of X G Zov⟩
 ·exact⟨_,_,ZS (st:=ZnX) ZpR ZoV ZpV,PySem.W.mg_of X G Zqk⟩
 ·exact⟨_,_,ZS (st:=Zo6) ZqJ Zpx ZqO,PySem.W.mg_of X G ZqY⟩
 ·exact⟨_,_,ZS (st:=ZnL) Zp4 Zow Zp8,PySem.W.mg_of X G ZpG⟩
 ·exact⟨_,_,ZS (st:=ZnM) Zp5 ZoF Zp9,PySem.W.mg_of X G ZpH⟩
 ·exact⟨_,_,ZS (st:=ZnE) Zpj Zox Zpm,PySem.W.mg_of X G Zps⟩
 ·exact⟨_,_,ZS (st:=Zn5) ZoC ZnR ZoD,PySem.W.mg_of X G ZoI⟩
 ·exact⟨_,_,ZS (st:=ZoS) Zrl Zqf Zrn,PySem.W.mg_of X G Zrw⟩
 ·exact⟨_,_,ZS (st:=ZoR) Zrk Zqe Zrm,PySem.W.mg_of X G Zrv⟩
 ·exact⟨_,_,ZS (st:=ZnV) ZpP ZoT ZpT,PySem.W.mg_of X G Zqi⟩
 ·exact⟨_,_,ZS (st:=ZnW) ZpQ ZoU ZpU,PySem.W.mg_of X G Zqj⟩
 ·exact⟨_,_,ZS (st:=Zn9) ZoY Zot Zpa,PySem.W.mg_of X G Zpf⟩
 ·exact⟨_,_,ZS (st:=Zoj) Zqt ZoL Zqx,PySem.W.mg_of X G Zq8⟩
 ·exact⟨_,_,ZS (st:=ZnY) ZpS ZoW ZpW,PySem.W.mg_of X G Zql⟩
 ·exact⟨_,_,ZS (st:=Zol) Zqv ZoM Zqz,PySem.W.mg_of X G ZqA⟩
 ·exact⟨_,_,ZS (st:=Zo8) ZqL Zpz ZqQ,PySem.W.mg_of X G Zra⟩
 ·exact⟨_,_,ZS (st:=ZnN) Zp6 ZoG ZpA,PySem.W.mg_of X G ZpI⟩
 ·exact⟨_,_,ZS (st:=ZnO) Zp7 ZoH ZpB,PySem.W.mg_of X G ZpJ⟩
 ·exact⟨_,_,ZS (st:=Zn2) Zoz ZnK Zo0,PySem.W.mg_of X G Zo2⟩
 ·exact⟨_,_,ZS (st:=ZrT) ZsH ZsG ZsI,PySem.W.mg_of X G ZsK⟩
 ·exact⟨_,PySem.W.mg_of X G a_FEWEST_PITS⟩
 ·exact⟨_,PySem.W.mg_of X G a_MOST_BOARDS⟩
 ·exact⟨_,PySem.W.mg_of X G a_MOST_PITS⟩
 ·exact PySem.W.mg_none_of X G z_all
 ·exact PySem.W.mg_none_of X G z_bool
 ·exact PySem.W.mg_none_of X G z_int
 ·exact PySem.W.mg_none_of X G z_isinstance
 ·exact PySem.W.mg_none_of X G z_len
 ·exact PySem.W.mg_none_of X G z_list
 ·exact PySem.W.mg_none_of X G z_max
 ·exact PySem.W.mg_none_of X G z_min
 ·exact PySem.W.mg_none_of X G z_range
 ·exact PySem.W.mg_none_of X G z_sorted
 ·exact PySem.W.mg_none_of X G z_sum
 ·exact PySem.W.mg_none_of X G z_tuple
end My
namespace PySem.W.Fast
noncomputable def tw5010872159320054880:=()
noncomputable def tw8118237439267699904:=()
noncomputable def tw14077318470391777600:=()
noncomputable def tw17067910655860142976:=()
noncomputable def tw10297714422904265664:=()
noncomputable def tw7615520012053251040:=()
noncomputable def tw12366060605849610241:=()
noncomputable def tw4094606549996714017:=()
noncomputable def tw17141114024818770049:=()
noncomputable def tw17321835712455605601:=()
noncomputable def tw9434981604474253985:=()
noncomputable def tw13756659139513585601:=()
noncomputable def tw9738893951862017250:=()
noncomputable def tw1207688983863368514:=()
noncomputable def tw11175296244624157602:=()
noncomputable def tw1458019074241609731:=()
noncomputable def tw7097505473949631747:=()
noncomputable def tw8911330503068017251:=()
noncomputable def tw13611321515693975459:=()
noncomputable def tw14072653889443712164:=()
noncomputable def tw7546717865245615332:=()
noncomputable def tw9369354610252524804:=()
noncomputable def tw17563434393965044036:=()
noncomputable def tw5000203591205887300:=()
noncomputable def tw11953051497110663524:=()
noncomputable def tw9968467938969846116:=()
noncomputable def tw11324489145194775076:=()
noncomputable def tw8433459273414535940:=()
noncomputable def tw6799850199019775876:=()
noncomputable def tw5021300015631671397:=()
noncomputable def tw4768719145365554341:=()
noncomputable def tw426652067515204933:=()
noncomputable def tw5749291897580359173:=()
noncomputable def tw6181640343818880070:=()
noncomputable def tw14726502516840096838:=()
noncomputable def tw1361714930894625926:=()
noncomputable def tw3303458024776738982:=()
noncomputable def tw15333254277853900038:=()
noncomputable def tw7483922053621105958:=()
noncomputable def tw7632841707882961190:=()
noncomputable def tw10567985567816099206:=()
noncomputable def tw15953307994102219142:=()
noncomputable def tw4006226448018794918:=()
noncomputable def tw1036235408584488358:=()
noncomputable def tw14428291917154277830:=()
noncomputable def tw4916840801333154278:=()
noncomputable def tw15655733426098000550:=()
noncomputable def tw2151512600529422150:=()
noncomputable def tw10475180201044392838:=()
noncomputable def tw11943728669357071302:=()
noncomputable def tw5318601858375072871:=()
noncomputable def tw9256064379105789127:=()
noncomputable def tw10453307071893936359:=()
noncomputable def tw3718385214267077895:=()
noncomputable def tw17691895267855108455:=()
noncomputable def tw15630768749080717895:=()
noncomputable def tw17842731367420943079:=()
noncomputable def tw17290167412685496071:=()
noncomputable def tw15215610108749039431:=()
noncomputable def tw12913136977512887207:=()
noncomputable def tw13147215115311035335:=()
noncomputable def tw2509186779322698760:=()
noncomputable def tw18423536682387861672:=()
noncomputable def tw11919389038540332488:=()
noncomputable def tw1586292621630470600:=()
noncomputable def tw5640300707099459144:=()
noncomputable def tw4792370597364457160:=()
noncomputable def tw3083357597429732425:=()
noncomputable def tw10247899598330027337:=()
noncomputable def tw5301926485113813449:=()
noncomputable def tw11300751533648013225:=()
noncomputable def tw4577248561984494954:=()
noncomputable def tw5398058909766957994:=()
noncomputable def tw4746600825616678923:=()
noncomputable def tw3889978932614605867:=()
noncomputable def tw1934463469012554923:=()
noncomputable def tw8370984539525183851:=()
noncomputable def tw9363529806211931595:=()
noncomputable def tw9894239071982793387:=()
noncomputable def tw4077663737981752043:=()
noncomputable def tw2495921508842711819:=()
noncomputable def tw8988589907608192907:=()
noncomputable def tw1230106526747139084:=()
noncomputable def tw13525239061757227052:=()
noncomputable def tw12575869320190948588:=()
noncomputable def tw5372071656013514124:=()
noncomputable def tw11632327132450815404:=()
noncomputable def tw15832121817316509484:=()
noncomputable def tw10484409273707154316:=()
noncomputable def tw15321055279019637644:=()
noncomputable def tw5766581084972537965:=()
noncomputable def tw17775453337936836813:=()
noncomputable def tw7764111327297196589:=()
noncomputable def tw6528695909681504973:=()
noncomputable def tw12907046678280158093:=()
noncomputable def tw10060372814150560110:=()
noncomputable def tw15549262971173008110:=()
noncomputable def tw15996127460194724622:=()
noncomputable def tw2652531113603910671:=()
noncomputable def tw9892910813145107503:=()
noncomputable def tw3492858248902417711:=()
noncomputable def tw850074300340769103:=()
noncomputable def tw7467778944689701263:=()
noncomputable def tw2070781624134807983:=()
noncomputable def tw611875615905000911:=()
noncomputable def tw10293984099798546895:=()
noncomputable def tw18101081682116291503:=()
noncomputable def tw3404971150061016144:=()
noncomputable def tw10595969461255629936:=()
noncomputable def tw7268724333415044304:=()
noncomputable def tw9005872352659943664:=()
noncomputable def tw7654349620480049648:=()
noncomputable def tw357254754398452240:=()
noncomputable def tw11284788551430070992:=()
noncomputable def tw9540375005602292049:=()
noncomputable def tw4541977310061021777:=()
noncomputable def tw16653551857499784913:=()
noncomputable def tw4721588034695428049:=()
noncomputable def tw5581703206142719154:=()
noncomputable def tw1053965066999736530:=()
noncomputable def tw11047742663307909362:=()
noncomputable def tw1518569854489752850:=()
noncomputable def tw7035070012469999026:=()
noncomputable def tw100986116953086610:=()
noncomputable def tw13301203912227210994:=()
noncomputable def tw2584133507455213458:=()
noncomputable def tw5674670358369280211:=()
noncomputable def tw7544571213812420915:=()
noncomputable def tw1370654649404715315:=()
noncomputable def tw12089048487733499251:=()
noncomputable def tw149712666990074259:=()
noncomputable def tw10881047925166413395:=()
noncomputable def tw14863379240097510067:=()
noncomputable def tw4576444789807263539:=()
noncomputable def tw9719395592279088212:=()
noncomputable def tw14669114105928621236:=()
noncomputable def tw13598837006604520116:=()
noncomputable def tw283245244457704148:=()
noncomputable def tw952828914906807092:=()
noncomputable def tw15400740909707559796:=()
noncomputable def tw4560040244361888724:=()
noncomputable def tw11656006007012722837:=()
noncomputable def tw3311471166477970965:=()
noncomputable def tw15041680847705123637:=()
noncomputable def tw16993324868695783253:=()
noncomputable def tw4991646832779446101:=()
noncomputable def tw8688434695941156725:=()
noncomputable def tw16791471626174399477:=()
noncomputable def tw17044423229799307414:=()
noncomputable def tw11983172256513462359:=()
noncomputable def tw15171790606352129143:=()
noncomputable def tw15686723264001103063:=()
noncomputable def tw2601726977952941751:=()
noncomputable def tw4118652247287174071:=()
noncomputable def tw14525272320731183192:=()
noncomputable def tw5289194750232145016:=()
noncomputable def tw4729321029475333304:=()
noncomputable def tw17830680690165147960:=()
noncomputable def tw5890013639949072728:=()
noncomputable def tw2543393874498462168:=()
noncomputable def tw3066242035273187000:=()
noncomputable def tw2891542726717612856:=()
noncomputable def tw15546943849379564408:=()
noncomputable def tw11785798007199647672:=()
noncomputable def tw12846990776610403353:=()
noncomputable def tw4082755754541253721:=()
noncomputable def tw4914637254937832761:=()
noncomputable def tw9460234903992763897:=()
noncomputable def tw12538234906168424985:=()
noncomputable def tw3915290018780888665:=()
noncomputable def tw5582273089665363929:=()
noncomputable def tw3852114890552739898:=()
noncomputable def tw11461076764627464378:=()
noncomputable def tw8193732667669780666:=()
noncomputable def tw10000109131352765946:=()
noncomputable def tw17408699078876087802:=()
noncomputable def tw7508710304272636794:=()
noncomputable def tw2963971457489896795:=()
noncomputable def tw15411178390516433339:=()
noncomputable def tw5290362285243360923:=()
noncomputable def tw7768469042786895611:=()
noncomputable def tw14142258929531985723:=()
noncomputable def tw3116917722484899835:=()
noncomputable def tw5933316661891829884:=()
noncomputable def tw7714290883470586108:=()
noncomputable def tw9103974562787958620:=()
noncomputable def tw14556796413267250012:=()
noncomputable def tw7997921454890185789:=()
noncomputable def tw4277257118232531069:=()
noncomputable def tw6918897463000324221:=()
noncomputable def tw18383403759780855965:=()
noncomputable def tw10877804123342185725:=()
noncomputable def tw17539142044836116925:=()
noncomputable def tw14036220691946838557:=()
noncomputable def tw13338915536238399133:=()
noncomputable def tw10947516309266136797:=()
noncomputable def tw16869318248955721469:=()
noncomputable def tw6086324571356884829:=()
noncomputable def tw11487806333491056637:=()
noncomputable def tw13554275468789447998:=()
noncomputable def tw3815050428384034142:=()
noncomputable def tw9912203828347203262:=()
noncomputable def tw8778233584564502206:=()
noncomputable def tw12305001180490132190:=()
noncomputable def tw6972499820398203774:=()
noncomputable def tw9064401141285601150:=()
noncomputable def tw8865960343199067199:=()
noncomputable def tw10027280598942357759:=()
noncomputable def tw13637305666552138175:=()
noncomputable def tw17816301418482065055:=()
noncomputable def tw17392528482633359071:=()
noncomputable def tw8701279602782583551:=()
noncomputable def tw7948076707328483231:=()
noncomputable def tw5305148791557626879:=()
noncomputable def tw9051361157218952507:=()
noncomputable def tw14951852425039805094:=()
noncomputable def tw3082576407057324432:=()
noncomputable def tw5628064880785724566:=()
noncomputable def tw7423148191568533450:=()
noncomputable def tw16244892996680263480:=()
end PySem.W.Fast
open PySem PySem.W PyProof.Rows
set_option maxRecDepth 100000 in
set_option maxHeartbeats 0 in
theorem PySem.Challenge.cw_sowring_k22_whole_least_way_holds : PySem.Challenge.rw_sowring_k22_whole_least_way.Holds := by
 w_on;o_law;k_head;(case hw=>w_witness2)
 k_fill
 refine L2.ZgB (l:=PySem.Challenge.rw_sowring_k22_whole_least_way) (n:=63) (k:=7) (x := "script") (CX:=L2.CX0) (sp:=My.ZeN) rfl (by decide) rfl ⟨rfl,by decide,by decide⟩ (fun w h Y=>by first|exact PySem.W.kIn_of Y|exact PySem.W.km_in_of Y) ?F ?S ?C
 case F =>
  intro w mg fa h KX G hmg
  have T:My.Txt (L2.KOf KX) mg:=by
   dsimp only[L2.KOf]
   refine' My.Zke KX G ?Zpu ?Zpl ?Zoh ?Zpo ?Zpt ?Zpk ?ZnU ?Zpn ?Zrb ?ZqM ?Zp0 ?ZqR ?Zq9 ?Zqu ?Zpe ?Zqy ?ZqZ ?ZqK ?Zpy ?ZqP ?ZqB ?Zqw ?ZoN ?Zq0 ?ZqX ?ZqI ?Zpw ?ZqN ?Zpg ?ZoZ ?Zou ?Zpb ?Zov ?Zoq ?ZnD ?Zor ?Zqk ?ZpR ?ZoV ?ZpV ?ZqY ?ZqJ ?Zpx ?ZqO ?ZpG ?Zp4 ?Zow ?Zp8 ?ZpH ?Zp5 ?ZoF ?Zp9 ?Zps ?Zpj ?Zox ?Zpm ?ZoI ?ZoC ?ZnR ?ZoD ?Zrw ?Zrl ?Zqf ?Zrn ?Zrv ?Zrk ?Zqe ?Zrm ?Zqi ?ZpP ?ZoT ?ZpT ?Zqj ?ZpQ ?ZoU ?ZpU ?Zpf ?ZoY ?Zot ?Zpa ?Zq8 ?Zqt ?ZoL ?Zqx ?Zql ?ZpS ?ZoW ?ZpW ?ZqA ?Zqv ?ZoM ?Zqz ?Zra ?ZqL ?Zpz ?ZqQ ?ZpI ?Zp6 ?ZoG ?ZpA ?ZpJ ?Zp7 ?ZoH ?ZpB ?Zo2 ?Zoz ?ZnK ?Zo0 ?ZsK ?ZsH ?ZsG ?ZsI ?a_FEWEST_PITS ?a_MOST_BOARDS ?a_MOST_PITS ?z_all ?z_bool ?z_int ?z_isinstance ?z_len ?z_list ?z_max ?z_min ?z_range ?z_sorted ?z_sum ?z_tuple ?x_tab ?x_exc
   (case Zpu=>k_is)
   (case Zpl=>k_is)
   (case Zoh=>k_is)
   (case Zpo=>k_is)
   (case Zpt=>k_is)
   (case Zpk=>k_is)
   (case ZnU=>k_is)
   (case Zpn=>k_is)
   (case Zrb=>k_is)
   (case ZqM=>k_is)
   (case Zp0=>k_is)
   (case ZqR=>k_is)
   (case Zq9=>k_is)
   (case Zqu=>k_is)
   (case Zpe=>k_is)
   (case Zqy=>k_is)
   (case ZqZ=>k_is)
   (case ZqK=>k_is)
   (case Zpy=>k_is)
   (case ZqP=>k_is)
   (case ZqB=>k_is)
   (case Zqw=>k_is)
   (case ZoN=>k_is)
   (case Zq0=>k_is)
   (case ZqX=>k_is)
   (case ZqI=>k_is)
   (case Zpw=>k_is)
   (case ZqN=>k_is)
   (case Zpg=>k_is)
   (case ZoZ=>k_is)
   (case Zou=>k_is)
   (case Zpb=>k_is)
   (case Zov=>k_is)
   (case Zoq=>k_is)
   (case ZnD=>k_is)
   (case Zor=>k_is)
   (case Zqk=>k_is)
   (case ZpR=>k_is)
   (case ZoV=>k_is)
   (case ZpV=>k_is)
   (case ZqY=>k_is)
   (case ZqJ=>k_is)
   (case Zpx=>k_is)
   (case ZqO=>k_is)
   (case ZpG=>k_is)
   (case Zp4=>k_is)
   (case Zow=>k_is)
   (case Zp8=>k_is)
   (case ZpH=>k_is)
   (case Zp5=>k_is)
   (case ZoF=>k_is)
   (case Zp9=>k_is)
   (case Zps=>k_is)
   (case Zpj=>k_is)
   (case Zox=>k_is)
   (case Zpm=>k_is)
   (case ZoI=>k_is)
   (case ZoC=>k_is)
   (case ZnR=>k_is)
   (case ZoD=>k_is)
   (case Zrw=>k_is)
   (case Zrl=>k_is)
   (case Zqf=>k_is)
   (case Zrn=>k_is)
   (case Zrv=>k_is)
   (case Zrk=>k_is)
   (case Zqe=>k_is)
   (case Zrm=>k_is)
   (case Zqi=>k_is)
   (case ZpP=>k_is)
   (case ZoT=>k_is)
   (case ZpT=>k_is)
   (case Zqj=>k_is)
   (case ZpQ=>k_is)
   (case ZoU=>k_is)
   (case ZpU=>k_is)
   (case Zpf=>k_is)
   (case ZoY=>k_is)
   (case Zot=>k_is)
   (case Zpa=>k_is)
   (case Zq8=>k_is)
   (case Zqt=>k_is)
   (case ZoL=>k_is)
   (case Zqx=>k_is)
   (case Zql=>k_is)
   (case ZpS=>k_is)
   (case ZoW=>k_is)
   (case ZpW=>k_is)
   (case ZqA=>k_is)
   (case Zqv=>k_is)
   (case ZoM=>k_is)
   (case Zqz=>k_is)
   (case Zra=>k_is)
   (case ZqL=>k_is)
   (case Zpz=>k_is)
   (case ZqQ=>k_is)
   (case ZpI=>k_is)
   (case Zp6=>k_is)
   (case ZoG=>k_is)
   (case ZpA=>k_is)
   (case ZpJ=>k_is)
   (case Zp7=>k_is)
   (case ZoH=>k_is)
   (case ZpB=>k_is)
   (case Zo2=>k_is)
   (case Zoz=>k_is)
   (case ZnK=>k_is)
   (case Zo0=>k_is)
   (case ZsK=>k_is)
   (case ZsH=>k_is)
   (case ZsG=>k_is)
   (case ZsI=>k_is)
   (case a_FEWEST_PITS=>k_is)
   (case a_MOST_BOARDS=>k_is)
   (case a_MOST_PITS=>k_is)
   (case z_all=>k_is)
   (case z_bool=>k_is)
   (case z_int=>k_is)
   (case z_isinstance=>k_is)
   (case z_len=>k_is)
   (case z_list=>k_is)
   (case z_max=>k_is)
   (case z_min=>k_is)
   (case z_range=>k_is)
   (case z_sorted=>k_is)
   (case z_sum=>k_is)
   (case z_tuple=>k_is)
   (case x_tab=>kernel_rfl)
   (case x_exc=>kernel_rfl)
  exact My.ZkX T hmg
 case S=>exact fun K H a ns hl hO hS=>My.ZfB hl hO hS
 case C=>exact fun _ _ _ _ z=>z
