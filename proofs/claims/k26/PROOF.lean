import PyProof.Rows.All
import Wide.All
import OpenK.AllK
import Wide.FinOn
import Lean
import PyProof.EqAt
import PyProof.EqKinds
import PyProof.TupleCall
import KE.KTryMore
import PyProof.NsDelKeeps
import PyProof.EnumStmt
import KE.KRevIter
import PyProof.ListNew
import PyProof.Rows.SortRuns
import KE.KIntText
import PyProof.ListRange
import PyProof.Rows.Range3
import PyProof.Rows.TupDisplay
import KE.KSortTup
import PyProof.DictWalks
import PyProof.DictTruth
import PySem.Challenge.RW_sowring_k26_whole_way_or_bar
open List renaming getD_eq_getElem?_getD->Zt8,getElem?_eq_getElem->Zt9,mem_of_getElem?->ZtA,mem_append_right->ZtB,getElem?_eq_some_iff->ZtC,mem_append->ZtD,mem_append_left->ZtF,length_map->ZtG,getElem?_append_left->ZtI,getElem?_append_right->ZtJ,append_assoc->ZtK,size_toArray->ZtL,mem_cons->ZtN,pairwise_append->ZtO,map_cons->ZtP,mem_singleton->ZtQ,length_take->ZtR,drop_eq_getElem_cons->ZtS,getElem?_map->ZtT,take_append_drop->ZtW,getElem?_set_self->ZtX,mem_map->ZtY,length_cons->Zua,mem_of_mem_take->Zuc,take_of_length_le->Zue,mem_of_mem_drop->Zuf,mem_range->Zug,mem_cons_of_mem->Zui,getElem?_set_ne->Zuj,getElem?_eq_none->Zuk,extract_eq_take_drop->Zul,map_map->Zum,all_eq_true->Zuo,getElem?_take->Zuq,length_append->Zus,getElem?_drop->Zut,lookup_cons->Zuv,mem_filter->Zuw,getElem?_eq_none_iff->Zux,map_append->Zuy,pairwise_iff_getElem->Zuz,getElem?_cons_zero->Zu2,pairwise_cons->Zu3,getElem?_of_mem->Zu4,length_drop->Zu5,nodup_iff_pairwise_ne->Zu6,drop_of_length_le->Zu7,drop_eq_nil_of_le->Zu8,append_nil->Zu9,perm_append_comm->ZuA,mem_cons_self->ZuB,nil_append->ZuC,pairwise_map->ZuF,any_cons->ZuH,map_congr_left->ZuI,cons_append->ZuJ,take_append_of_le_length->ZuK,nodup_cons->ZuL,length_set->ZuM,find?_cons->ZuN,length_nil->ZuO,reverse_cons->ZuP,drop_zero->ZuQ,take_succ->ZuS,getElem_mem->ZuU,take_length->ZuV,filter_eq_self->ZuW,map_nil->ZuY,getElem?_replicate->ZuZ,zip_cons_cons->Zva,getElem?_cons_succ->Zvb,pairwise_singleton->Zvc,sum_cons->Zvd,filter_append->Zve,ext_getElem?->Zvh,singleton_append->Zvk,contains_iff_mem->Zvl,length_filter_le->Zvn,getElem?_replicate_of_lt->Zvo,filterMap_cons->Zvs,length_pos_iff->Zvu,getElem?_range->Zvv,length_zip->Zvx,range_succ->Zvy,mem_filterMap->Zv1,ne_nil_of_mem->Zv2,set_cons_zero->Zv3,find?_eq_none->Zv4,set_cons_succ->Zv5,foldl_append->Zv8,mem_reverse->Zv9,ext_getElem->ZvB,not_mem_nil->ZvC,map_reverse->ZvD,of_mem_zip->ZvE,foldl_cons->ZvF,map_id->ZvG
open Nat renaming le_refl->ZtE,lt_of_lt_of_le->ZtM,ne_of_lt->ZtU,le_trans->ZtV,zero_le->Zub,lt_irrefl->Zun,zero_add->Zuu,lt_of_le_of_lt->ZuD,ne_of_gt->ZuX,not_lt->Zvg,sub_self->Zvj,succ_pos->Zvm,pow_le_pow_right->Zvr,min_le_left->Zvt,lt_succ_of_lt->Zv6,lt_succ_self->ZvA
open Int renaming toNat_natCast->ZtZ,emod_lt_of_pos->Zud,emod_nonneg->Zup,toNat_of_nonneg->Zu0,emod_eq_of_lt->Zu1,zero_add->ZuG
open Array renaming length_toList->ZtH,getElem?_toList->Zuh,toList_extract->ZuE,getElem?_eq_getElem->ZuR,getElem?_eq_none->Zvf,toList_push->Zvi,toList_inj->Zvp,toList_map->Zvq,toList_append->Zvw,toList_setIfInBounds->Zvz,perm_iff_toList_perm->Zv0
open Option renaming map_eq_some_iff->Zur,getD_some->ZuT,isSome_map->Zv7
set_option Elab.async false
set_option linter.all false
set_option maxRecDepth 100000
namespace L2
open PySem PySem.Spec PyProof.Rows
noncomputable abbrev Key:=Sum Int Str
noncomputable def Zeg:Key->Value->Bool
 |.inl k,v=>Value.isInt k v
 |.inr x,v=>Value.isStrOf x v
noncomputable def Zna (w:World):Key->Int
 |.inl k=>hashInt k
 |.inr x=>hashStr w x
theorem Jd:∀{k:Key}{v:Value},Zeg k v=true->(∃i t,k=Sum.inl i/\v=Value.int i t)\/(∃x t,k=Sum.inr x/\v=Value.str x t)
 |.inl i,v,h=>by
  obtain⟨t,e⟩:=Value.isInt_shape (k:=i) (v:=v) h
  exact .inl ⟨i,t,rfl,e⟩
 |.inr x,v,h=>by
  obtain⟨t,e⟩:=Value.isStrOf_shape (x:=x) (v:=v) h
  exact .inr ⟨x,t,rfl,e⟩
theorem Zf9 (i:Int) (t:Tok):Zeg (.inl i) (.int i t)=true:=by simp[Zeg,Value.isInt]
theorem Zf8 (x:Str) (t:Tok):Zeg (.inr x) (.str x t)=true:=by simp[Zeg,Value.isStrOf]
theorem ZkS (a b:Int):decide ((Sum.inl a:Key)=Sum.inl b)=(a==b):=by
 by_cases e:a=b
 ·subst e;simp
 ·have h:¬(Sum.inl a:Key)=Sum.inl b:=fun q=>e (Sum.inl.inj q)
  rw[decide_eq_false h]
  exact(beq_eq_false_iff_ne.mpr e).symm
theorem ZkP (a b:Str):decide ((Sum.inr a:Key)=Sum.inr b)=decide (a=b):=by
 by_cases e:a=b
 ·subst e;simp
 ·have h:¬(Sum.inr a:Key)=Sum.inr b:=fun q=>e (Sum.inr.inj q)
  rw[decide_eq_false h,decide_eq_false e]
theorem ZkR (a:Int) (b:Str):decide ((Sum.inl a:Key)=Sum.inr b)=false:=decide_eq_false (fun q=>nomatch q)
theorem ZkQ (a:Str) (b:Int):decide ((Sum.inr a:Key)=Sum.inl b)=false:=decide_eq_false (fun q=>nomatch q)
noncomputable def Jv (prog:Program) (w:World):PySem.KeyKind prog w Key where
 is:=Zeg
 hash:=Zna w
 inj:=fun v a b ha hb=>by
  rcases Jd ha with ⟨i,t,rfl,rfl⟩|⟨x,t,rfl,rfl⟩
  ·rcases Jd hb with ⟨j,u,rfl,e⟩|⟨y,u,rfl,e⟩
   ·injection e with e1 _;rw[e1]
   ·exact nomatch e
  ·rcases Jd hb with ⟨j,u,rfl,e⟩|⟨y,u,rfl,e⟩
   ·exact nomatch e
   ·injection e with e1 _;rw[e1]
 byValue:=fun k v h=>by
  rcases Jd h with ⟨i,t,rfl,rfl⟩|⟨x,t,rfl,rfl⟩<;>rfl
 pyHash:=fun hv h=>by
  rcases Jd hv with ⟨i,t,rfl,rfl⟩|⟨x,t,rfl,rfl⟩
  ·exact wpAny_pyHash_int h
  ·exact wpAny_pyHash_str h
 eqBool:=fun hu hv h=>by
  rcases Jd hu with ⟨i,t,rfl,rfl⟩|⟨x,t,rfl,rfl⟩
  ·rcases Jd hv with ⟨j,u,rfl,rfl⟩|⟨y,u,rfl,rfl⟩
   ·rw[ZkS] at h;exact wpAny_eqBool_int h
   ·rw[ZkR] at h;exact SeqAt.EqAt.int_str i t y u _ _ _ _ h
  ·rcases Jd hv with ⟨j,u,rfl,rfl⟩|⟨y,u,rfl,rfl⟩
   ·rw[ZkQ] at h;exact SeqAt.EqAt.str_int x t j u _ _ _ _ h
   ·rw[ZkP] at h;exact wpAny_eqBool_str h
 «strs»:=fun k x t v h=>by
  rcases Jd h with ⟨i,u,rfl,e⟩|⟨y,u,rfl,e⟩
  ·exact nomatch e
  ·injection e with e1 _
   subst e1
   cases v<;>rfl
theorem Zcg (prog:Program) (w:World) (i:Int) (t:Tok):(Jv prog w).is (.inl i) (.int i t)=true:=Zf9 i t
theorem Zcf (prog:Program) (w:World) (x:Str) (t:Tok):(Jv prog w).is (.inr x) (.str x t)=true:=Zf8 x t
inductive V where
 |non|bl (b:Bool)|int (i:Int)|str (x:Str)|byt (b:Array UInt8)|flt (b:UInt64)|ref (a:Addr)|ty (n:String)
 deriving DecidableEq
noncomputable def Jt:V->Value->Prop
 |.non,u=>u=Value.none
 |.bl b,u=>u=Value.bool b
 |.int i,u=>∃t,u=Value.int i t
 |.str x,u=>∃t,u=Value.str x t
 |.byt b,u=>∃t,u=Value.bytes b t
 |.flt b,u=>∃t,u=Value.float b t
 |.ref a,u=>u=Value.ref a
 |.ty n,u=>u=Value.type n
noncomputable abbrev Jb:List V->List Value->Prop:=Paired Jt
theorem Jb.length {xs:List V}{us:List Value} (r:Jb xs us):xs.length=us.length:=Paired.length r
theorem Jb.get:∀{xs:List V}{us:List Value}{i:Nat}{x:V},Jb xs us->xs[i]?=some x->∃u,us[i]?=some u/\Jt x u
 |_,_,_,_,.nil,e=>by simp at e
 |_,_,0,_,.cons r _,e=>by simp at e;subst e;exact⟨_,rfl,r⟩
 |_,_,i+1,x,.cons _ t,e=>by
  obtain⟨u,h1,h2⟩:=Jb.get (i:=i) (x:=x) t (by simpa using e)
  exact⟨u,by simpa using h1,h2⟩
theorem Jb.set {x:V}{u:Value} (r:Jt x u):∀{xs:List V}{us:List Value} (i:Nat),Jb xs us->Jb (xs.set i x) (us.set i u)
 |_,_,_,.nil=>.nil
 |_,_,0,.cons _ t=>.cons r t
 |_,_,i+1,.cons q t=>.cons q (Jb.set r i t)
theorem Jb.append:∀{xs ys:List V}{us ws:List Value},Jb xs us->Jb ys ws->Jb (xs++ys) (us++ws)
 |_,_,_,_,.nil,s=>s
 |_,_,_,_,.cons r t,s=>.cons r (Jb.append t s)
theorem Jb.take:∀{xs:List V}{us:List Value} (n:Nat),Jb xs us->Jb (xs.take n) (us.take n)
 |_,_,0,_=>.nil
 |_,_,_+1,.nil=>.nil
 |_,_,n+1,.cons r t=>.cons r (Jb.take n t)
theorem Jb.drop:∀{xs:List V}{us:List Value} (n:Nat),Jb xs us->Jb (xs.drop n) (us.drop n)
 |_,_,0,r=>r
 |_,_,_+1,.nil=>.nil
 |_,_,n+1,.cons _ t=>Jb.drop n t
noncomputable def ZgG:Option V->Option Value->Prop
 |some v,some u=>Jt v u
 |none,none=>True
 |_,_=>False
def KV {κ:Type}:List (κ×V)->List (κ×Value)->Prop:=Paired fun(p:κ×V) (q:κ×Value)=>p.1=q.1/\Jt p.2 q.2
noncomputable def kV:Key->V
 |.inl i=>.int i
 |.inr x=>.str x
inductive HO where
  |lst (xs:List V)
  |tup (xs:List V)
  |dK (kvs:List (Key×V))|dT (kvs:List (List Key×V))
  |set (S:Int->Bool) (n:Nat)
  |ins (C dx:Addr) (fs:List (Str×V))
  |own (x:Addr)
  |xd (fs:List (Str×V))
  |met (f x:Addr)
  |rng (lo hi:Int)
  |frz (o:Obj) (u:HO)
  |tbl (ps:Array Value)
  |ext (φ:Heap->Prop)
noncomputable abbrev Hp:=Addr->Option HO
noncomputable def upd (H:Hp) (a:Addr) (o:HO):Hp:=fun b=>if b=a then some o else H b
theorem ZD {H:Hp}{a:Addr}{o:HO}:upd H a o a=some o:=by unfold upd;rw[if_pos rfl]
theorem Z1 {H:Hp}{a b:Addr}{o:HO} (h:b≠a):upd H a o b=H b:=by unfold upd;rw[if_neg h]
theorem Zjp {H:Hp}{a b:Addr}{o u:HO} (h:H a=some o) (h':H b=some u) (d:o≠u):a≠b:=by
 intro e;subst e;rw[h] at h';exact d (Option.some.inj h')
theorem ZR {H:Hp}{a b:Addr}{o:HO} (h:H a=some o) (h':H b=none):a≠b:=by
 intro e;subst e;rw[h] at h';cases h'
section
variable (P:Program) (w:World)
noncomputable def JA (H:Hp) (h:Heap) (a:Addr):HO->Prop
 |.lst xs=>xs.length<=sizeLine/\∃(its:List Value) (n:Nat),Jb xs its/\h.get? a=some { cls:=.type "list",data:=.seq its.toArray n }
 |.tup xs=>xs.length<=sizeLine/\∃its:List Value,Jb xs its/\IsTup h a its.toArray
 |.dK kvs=>kvs.length<=sizeLine/\(a==sysModules)=false/\∃vs,KV kvs vs/\h.DictOf (Jv P w) a vs
 |.dT kvs=>kvs.length<=sizeLine/\(a==sysModules)=false/\∃xs:List (List Key×Addr×Value),
   Paired (fun(p:List Key×V) (q:List Key×Addr×Value)=>p.1=q.1/\H q.2.1=some (.tup (p.1.map kV))/\Jt p.2 q.2.2) kvs xs /\
   ∃o es ep,h.get? a=some o/\o.ExactDict/\o.data=.dict es ep/\es.toList=xs.map (entryOfKey (tupleKind (Jv P w)))/\(xs.map (·.1)).Nodup
 |.set S n=>h.SetOf (intKind P w) a S n
 |.ins C dx fs=>H dx=some (.own a)/\fs.length<=1000/\dx≠a/\h.get? a=some (PySem.W.instObj C dx) /\
   ∃mA,h.Ns1 dx mA/\(∀f,ZgG (fs.lookup f) (mA f))/\PySem.Within mA (fs.map (·.1))
 |.own _=>∃o,h.get? a=some o
 |.xd fs=>∃mA,h.Ns1 a mA/\∀f,ZgG (fs.lookup f) (mA f)
 |.rng lo hi=>∃t u v,h.get? a=some { cls:=.type "range",data:=.fields #[.int lo t,.int hi u,.int 1 v] }
 |.frz o u=>h.get? a=some o/\JA H h a u
 |.tbl ps=>h.get? a=some { cls:=.none,data:=.fields ps }
 |.met f x=>h.get? a=some (PySem.W.methodObj (.ref f) (.ref x))
 |.ext φ=>φ h/\(∃o,h.get? a=some o)/\∀h1 h2:Heap,φ h1->(∀o,h1.get? a=some o->h2.get? a=some o)->φ h2
def HOk (H:Hp) (h:Heap):Prop:=∀a o,H a=some o->JA P w H h a o
end
section
variable {P:Program}{w:World}{H H':Hp}{h h':Heap}{a:Addr}{o:HO}
theorem JA.lt (x:JA P w H h a o):a<h.objs.size:=by
 cases o with
 |lst xs=>obtain⟨_,_,_,_,e⟩:=x;exact Heap.lt_size e
 |tup xs=>obtain⟨_,_,_,p⟩:=x;exact p.lt
 |dK kvs=>obtain⟨_,_,_,_,o,_,_,e,_⟩:=x;exact Heap.lt_size e
 |dT kvs=>obtain⟨_,_,_,_,o,_,_,e,_⟩:=x;exact Heap.lt_size e
 |set S n=>obtain⟨o,_,_,_,e,_⟩:=x;exact Heap.lt_size e
 |ins C dx fs=>obtain⟨_,_,_,e,_⟩:=x;exact Heap.lt_size e
 |own y=>obtain⟨_,e⟩:=x;exact Heap.lt_size e
 |xd fs=>obtain⟨_,⟨_,_,_,e,_⟩,_⟩:=x;exact Heap.lt_size e
 |rng lo hi=>obtain⟨_,_,_,e⟩:=x;exact Heap.lt_size e
 |frz ob u=>obtain⟨e,_⟩:=x;exact Heap.lt_size e
 |tbl ps=>exact Heap.lt_size (show h.get? a=some _ from x)
 |met f y=>exact Heap.lt_size (show h.get? a=some _ from x)
 |ext φ=>obtain⟨_,⟨_,e⟩,_⟩:=x;exact Heap.lt_size e
theorem Paired.mapP {α β:Type}{F G:α->β->Prop}:∀{l₁:List α}{l₂:List β},Paired F l₁ l₂->(∀a b,F a b->G a b)->Paired G l₁ l₂
 |_,_,.nil,_=>.nil
 |_,_,.cons r t,f=>.cons (f _ _ r) (Paired.mapP t f)
theorem JA.stay (x:JA P w H h a o) (k:∀b u,(b=a\/H b=some (.own a))->h.get? b=some u->h'.get? b=some u)
  (ho:∀b,H b=some (.own a)->H' b=some (.own a)) (ht:∀b xs,H b=some (.tup xs)->H' b=some (.tup xs)):JA P w H' h' a o:=by
 induction o with
 |lst xs=>obtain⟨z,its,n,r,e⟩:=x;exact⟨z,its,n,r,k _ _ (.inl rfl) e⟩
 |tup xs=>obtain⟨z,its,r,ob,e,c⟩:=x;exact⟨z,its,r,ob,k _ _ (.inl rfl) e,c⟩
 |dK kvs=>obtain⟨z,y,vs,r,ob,es,ep,e,c⟩:=x;exact⟨z,y,vs,r,ob,es,ep,k _ _ (.inl rfl) e,c⟩
 |dT kvs =>
  obtain⟨z,y,xs,r,ob,es,ep,e,c⟩:=x
  exact⟨z,y,xs,Paired.mapP r fun p q z=>⟨z.1,ht _ _ z.2.1,z.2.2⟩,ob,es,ep,k _ _ (.inl rfl) e,c⟩
 |set S n=>obtain⟨ob,es,ep,t,e,c⟩:=x;exact⟨ob,es,ep,t,k _ _ (.inl rfl) e,c⟩
 |ins C dx fs =>
  obtain⟨d,z,ne,e,mA,⟨od,es,ep,e2,c⟩,r⟩:=x
  exact⟨ho _ d,z,ne,k _ _ (.inl rfl) e,mA,⟨od,es,ep,k _ _ (.inr d) e2,c⟩,r⟩
 |own y=>obtain⟨ob,e⟩:=x;exact⟨ob,k _ _ (.inl rfl) e⟩
 |xd fs=>obtain⟨mA,⟨od,es,ep,e,c⟩,r⟩:=x;exact⟨mA,⟨od,es,ep,k _ _ (.inl rfl) e,c⟩,r⟩
 |rng lo hi=>obtain⟨t,u,v,e⟩:=x;exact⟨t,u,v,k _ _ (.inl rfl) e⟩
 |frz ob u ih=>obtain⟨e,q⟩:=x;exact⟨k _ _ (.inl rfl) e,ih q⟩
 |tbl ps =>
  have e:h.get? a=some { cls:=.none,data:=.fields ps }:=x
  show h'.get? a=some { cls:=.none,data:=.fields ps }
  exact k a _ (.inl rfl) e
 |met f y =>
  have e:h.get? a=some (PySem.W.methodObj (.ref f) (.ref y)):=x
  show h'.get? a=some (PySem.W.methodObj (.ref f) (.ref y))
  exact k a _ (.inl rfl) e
 |ext φ=>obtain⟨p,⟨o,e⟩,st⟩:=x;exact⟨st _ _ p fun o q=>k _ _ (.inl rfl) q,⟨o,k _ _ (.inl rfl) e⟩,st⟩
theorem HOk.lt (x:HOk P w H h) (e:H a=some o):a<h.objs.size:=(x a o e).lt
theorem HOk.fresh (x:HOk P w H h) (e:h.objs.size<=a):H a=none:=by
 cases q:H a with
 |none=>rfl
 |some u=>exact absurd (ZtM (x.lt q) e) (Zun _)
theorem HOk.kept (x:HOk P w H h) (k:∀b u,h.get? b=some u->h'.get? b=some u):HOk P w H h':=fun a o e =>
 (x a o e).stay (fun b u _ q=>k b u q) (fun _ q=>q) fun _ _ q=>q
theorem HOk.laid (x:HOk P w H h) (k:∀b u,h.get? b=some u->h'.get? b=some u) (hp:h.objs.size<=a) (new:JA P w (upd H a o) h' a o):HOk P w (upd H a o) h':=fun b u e=>by
 have hn:=x.fresh hp
 by_cases hb:b=a
 ·subst hb;rw[ZD] at e;cases e;exact new
 ·rw[Z1 hb] at e
  exact(x b u e).stay (fun c v _ q=>k c v q) (fun c q=>by rw[Z1 (ZR q hn)];exact q) fun c xs q=>by rw[Z1 (ZR q hn)];exact q
end
def Rd (H:Hp) (a:Addr) (u:HO):Prop:=H a=some u\/∃o,H a=some (.frz o u)
theorem Rd.ok {P:Program}{w:World}{H:Hp}{h:Heap}{a:Addr}{u:HO} (r:Rd H a u) (x:HOk P w H h):JA P w H h a u:=by
 rcases r with r|⟨o,r⟩
 ·exact x a u r
 ·obtain⟨_,q⟩:=x a _ r
  exact q
noncomputable def Mut:Option HO->Prop
 |some (.lst _)=>True
 |some (.dK _)=>True
 |some (.dT _)=>True
 |some (.set _ _)=>True
 |some (.ins _ _ _)=>True
 |some (.ext _)=>True
 |_=>False
section
variable {P:Program}{w:World}{H:Hp}{h h':Heap}{x e:Addr}{o':HO}
theorem HOk.write (ok:HOk P w H h) (mu:Mut (H x)) (he:e=x\/H e=some (.own x)) (k:∀b u,b≠e->h.get? b=some u->h'.get? b=some u) (heo:∃u,h'.get? e=some u)
  (new:JA P w (upd H x o') h' x o'):HOk P w (upd H x o') h':=fun b u q=>by
 have nown:∀c y,H c=some (.own y)->c≠x:=fun c y r z=>by subst z;rw[r] at mu;exact mu
 have ntup:∀c xs,H c=some (.tup xs)->c≠x:=fun c xs r z=>by subst z;rw[r] at mu;exact mu
 by_cases hb:b=x
 ·subst hb;rw[ZD] at q;cases q;exact new
 ·rw[Z1 hb] at q
  by_cases hbe:b=e
  ·have q':H b=some (.own x):=by
    rcases he with z|z
    ·exact absurd (hbe.trans z) hb
    ·rw[hbe];exact z
   rw[q] at q';cases q'
   obtain⟨v,hv⟩:=heo
   exact⟨v,by rw[hbe];exact hv⟩
  ·refine(ok b u q).stay (fun c v hc r=>k c v ?_ r) (fun c r=>by rw[Z1 (nown c b r)];exact r) fun c xs r=>by rw[Z1 (ntup c xs r)];exact r
   rcases hc with rfl|hc
   ·exact hbe
   ·rintro rfl
    rcases he with z|z
    ·exact nown c b hc z
    ·rw[hc] at z;cases z;exact hb rfl
end
structure Un (fs ex:List Addr) (H H':Hp) (h h':Heap):Prop where
 keep:∀b o,h.get? b=some o->H b=none->b ∉ fs->b ∉ ex->h'.get? b=some o
 slot:∀b o,h.get? b=some o->H b=none->b∈fs->b ∉ ex->∃sl,h'.get? b=some { o with slots:=sl }
 free:∀b o,h.get? b=some o->H b=none->b ∉ ex->H' b=none
 there:∀b o,h.get? b=some o->b ∉ ex->∃o',h'.get? b=some o'
 tups:∀b xs,H b=some (.tup xs)->H' b=some (.tup xs)
 frzs:∀b o u,H b=some (.frz o u)->H' b=some (.frz o u)
 tbls:∀b ps,H b=some (.tbl ps)->∃more,H' b=some (.tbl (ps++more))
section
variable {fs ex:List Addr}{H H1:Hp}{h h1 h':Heap}{a x e:Addr}{o:HO}
theorem Un.any (u:Un fs ex H H1 h h1) {b:Addr}{ob:Obj} (q:h.get? b=some ob) (n:H b=none) (hx:b ∉ ex):∃sl,h1.get? b=some { ob with slots:=sl }:=by
 by_cases hb:b∈fs
 ·exact u.slot b ob q n hb hx
 ·exact⟨ob.slots,u.keep b ob q n hb hx⟩
theorem Un.kept (k:∀b u,h.get? b=some u->h'.get? b=some u):Un fs ex H H h h':=
 ⟨fun b ob q _ _ _=>k b ob q,fun b ob q _ _ _=>⟨ob.slots,k b ob q⟩,fun _ _ _ n _=>n,fun b ob q _=>⟨ob,k b ob q⟩,fun _ _ q=>q,fun _ _ _ q=>q,fun _ ps q=>⟨#[],by rw[q];simp⟩⟩
theorem Un.refl:Un fs ex H H h h:=Un.kept fun _ _ q=>q
theorem Un.laid (k:∀b u,h.get? b=some u->h'.get? b=some u) (hp:h.objs.size<=a) (hn:H a=none):Un fs ex H (upd H a o) h h' where
 keep:=fun b u q _ _ _=>k b u q
 slot:=fun b u q _ _ _=>⟨u.slots,k b u q⟩
 free:=fun b u q n _=>by rw[Z1 (ZtU (ZtM (Heap.lt_size q) hp))];exact n
 there:=fun b u q _=>⟨u,k b u q⟩
 tups:=fun b xs q=>by rw[Z1 (ZR q hn)];exact q
 frzs:=fun b u xs q=>by rw[Z1 (ZR q hn)];exact q
 tbls:=fun b ps q=>⟨#[],by rw[Z1 (ZR q hn),q];simp⟩
theorem Un.write (mu:Mut (H x)) (he:e=x\/H e=some (.own x)) (k:∀b u,b≠e->h.get? b=some u->h'.get? b=some u) (heo:∃u,h'.get? e=some u):Un fs ex H (upd H x o) h h':=by
 have hx:∀b,H b=none->b≠x:=fun b n z=>by subst z;rw[n] at mu;exact mu
 have hb:∀b,H b=none->b≠e:=fun b n z=>by
  subst z
  rcases he with r|r
  ·exact hx b n r
  ·rw[n] at r;cases r
 have hm:∀b u,H b=some u->¬Mut (some u)->b≠x:=fun b u q nm z=>by subst z;rw[q] at mu;exact nm mu
 refine⟨fun b u q n _ _=>k b u (hb b n) q,fun b u q n _ _=>⟨u.slots,k b u (hb b n) q⟩,fun b u q n _=>by rw[Z1 (hx b n)];exact n,fun b u q _=>?_,
  fun b xs q=>by rw[Z1 (hm b _ q fun z=>z)];exact q,fun b u xs q=>by rw[Z1 (hm b _ q fun z=>z)];exact q,fun b ps q=>⟨#[],by rw[Z1 (hm b _ q fun z=>z),q];simp⟩⟩
 by_cases hbe:b=e
 ·subst hbe;exact heo
 ·exact⟨u,k b u hbe q⟩
end
noncomputable def trk (h:Heap) (H:Hp):List Addr:=(List.range h.objs.size).filter fun a=>(H a).isSome
noncomputable def Zh4 (h:Heap) (H:Hp):Heap:=PySem.W.hideAll h (trk h H)
theorem ZfG (h:Heap) (H:Hp):(Zh4 h H).objs.size=h.objs.size:=PySem.W.hideAll_size _ _
theorem Zh3 {h:Heap}{H:Hp}{b:Addr}{o:Obj} (e:h.get? b=some o) (n:H b=none):(Zh4 h H).get? b=some o:=
 PySem.W.hideAll_get _ e fun hm=>by
  have q:(H b).isSome=true:=(Zuw.mp hm).2
  rw[n] at q;simp at q
theorem Zjm {h:Heap}{H:Hp}{b:Addr}{o:Obj} (e:(Zh4 h H).get? b=some o):h.get? b=some o/\H b=none:=by
 have e':h.get? b=some o:=PySem.W.of_hideAll (trk h H) e
 refine⟨e', ?_⟩
 cases q:H b with
 |none=>rfl
 |some x =>
  have hm:b∈trk h H:=Zuw.mpr ⟨Zug.mpr (Heap.lt_size e'),by simp[q]⟩
  have z:(Zh4 h H).get? b=none:=PySem.W.hideAll_none (trk h H) hm
  rw[z] at e;cases e
noncomputable def ZjO (g h:Heap) (L:Addr):List (Addr×Obj):=(List.range h.objs.size).filterMap fun a=>if a=L\/(g.get? a).isSome=true then none else (h.get? a).map fun o=>(a,o)
noncomputable def ZgA (g h:Heap) (L d:Addr):List (Addr×Obj):=(ZjO g h L).filter fun p=>decide (p.1≠d)
structure Mod (K:PySem.W.Frag) (mg:Str->Option Value) (base:Heap):Prop where
 kin:K.In base
 glob:base.Ns mainGlobals mg
 blt:∃mb,base.Ns builtinsNs mb/\∀x:Str,x ≠ "__name__"->mb x=bootBuiltins x
 nolimit:base.NoLimit
structure Cx where
 prog:Program
 w:World
 K:PySem.W.Frag
 mg:Str->Option Value
 base:Heap
 A:Around
 N:List Str
 s₀:Shared
 H₀:Hp
 env:Env
 outer:List Env
 stack:List Env
 ex:List Addr
 fn:Str->Bool
 calm:Bool
 pn:List (Addr×Obj)
 xe:Value->Shared->Prop
noncomputable def frs (l:List Env):List Addr:=l.filterMap (·.frame)
noncomputable abbrev Cx.fs (X:Cx):List Addr:=frs X.outer
def Vis (sc:Scope) (x:Str):Prop:=sc.names.lookup x=some .local\/sc.names.lookup x=some .cell\/sc.names.lookup x=some .free
def Loc (sc:Scope) (x:Str):Prop:=sc.names.lookup x=some .local\/sc.names.lookup x=some .cell
def Zni (env:Env) (h:Heap) (m:Str->Option Value) (x:Str) (u:Value):Prop:=
 (env.kindOf x=some .local/\m x=some u)\/((env.kindOf x=some .cell\/env.kindOf x=some .free)/\∃c,env.cells.lookup x=some c/\h.IsCell c (some u))
structure Cx.Ok (X:Cx):Prop where
 mod:Mod X.K X.mg X.base
 kind:X.env.scope.kind=.function
 glob:X.env.globals=mainGlobals
 blt:X.env.builtins=builtinsNs
 above:X.s₀.heap.objs.size<=X.env.locals
 inj:∀x y c,X.env.cells.lookup x=some c->X.env.cells.lookup y=some c->x=y
 has:∀x,(X.env.kindOf x=some .cell\/X.env.kindOf x=some .free)->∃c,X.env.cells.lookup x=some c
 cab:∀x c,X.fn x=true->X.env.cells.lookup x=some c->X.s₀.heap.objs.size<=c
 hd:X.calm=true->X.A.handled=none
 frames:X.A.frames=some X.stack
 stk:X.stack=X.outer\/(X.stack=X.env::X.outer/\X.env.frame=some X.env.locals)
 exf:∀b∈X.ex,b≠X.env.locals/\∀x c,X.env.cells.lookup x=some c->c≠b
 bs:∀b o,X.base.get? b=some o->X.s₀.heap.get? b=some o/\X.H₀ b=none
 bsz:X.base.objs.size<=X.s₀.heap.objs.size
 noex:∀b o,X.base.get? b=some o->b ∉ X.ex
 exfs:∀b∈X.ex,b ∉ X.fs
 funs:X.s₀.heap.FunFrames X.base X.outer
 frf:∀b∈X.fs,X.H₀ b=none
structure Inv (X:Cx) (pins:List (Addr×Obj)) (σ:List (Option V)) (H:Hp) (s:Shared):Prop where
 ok:X.Ok
 os:s.os=X.s₀.os
 bare:AllBare s.gens
 base:Un X.fs X.ex X.H₀ H X.s₀.heap s.heap
 loc:∃m,s.heap.Ns X.env.locals m/\∀(i:Nat) (x:Str) (v:V),X.N[i]?=some x->σ[i]?=some (some v)->Vis X.env.scope x->∃u,Jt v u/\Zni X.env s.heap m x u
 cell:∀x c,X.env.cells.lookup x=some c->∃v,s.heap.IsCell c v
 free:H X.env.locals=none
 freeC:∀x c,X.env.cells.lookup x=some c->H c=none
 pin:∀p∈X.pn++pins,s.heap.get? p.1=some p.2/\H p.1=none/\p.1≠X.env.locals/\p.1 ∉ X.fs/\∀v,p.2.data≠.cell v
 hok:HOk X.prog X.w H s.heap
 len:σ.length=X.N.length
section
variable {X:Cx}{pins:List (Addr×Obj)}{σ:List (Option V)}{H H':Hp}{s:Shared}{h':Heap}
theorem Cx.Ok.nofr (ok:X.Ok) {b:Addr}{o:Obj} (e:X.base.get? b=some o):b ∉ X.fs:=fun hb=>by
 have:=(ok.funs.mem hb).1
 rw[e] at this;cases this
theorem Inv.bs (I:Inv X pins σ H s):∀b o,X.base.get? b=some o->s.heap.get? b=some o/\H b=none:=fun b o e =>
 ⟨I.base.keep b o (I.ok.bs b o e).1 (I.ok.bs b o e).2 (I.ok.nofr e) (I.ok.noex b o e),I.base.free b o (I.ok.bs b o e).1 (I.ok.bs b o e).2 (I.ok.noex b o e)⟩
theorem Inv.bk (I:Inv X pins σ H s):∀b o,X.base.get? b=some o->s.heap.get? b=some o:=fun b o e=>(I.bs b o e).1
theorem Inv.mod (I:Inv X pins σ H s):Mod X.K X.mg X.base:=I.ok.mod
theorem Inv.kIn (I:Inv X pins σ H s):X.K.In s.heap:=I.ok.mod.kin.keeps I.bk
theorem Inv.lt (I:Inv X pins σ H s):X.env.locals<s.heap.objs.size:=let ⟨_,hn,_⟩:=I.loc;hn.lt
theorem Inv.sz (I:Inv X pins σ H s):X.s₀.heap.objs.size<=s.heap.objs.size:=ZtV I.ok.above (Nat.le_of_lt I.lt)
theorem Inv.nofs (I:Inv X pins σ H s) {a:Addr} (h:s.heap.objs.size<=a):a ∉ X.fs:=fun hb=>by
 obtain⟨_,o,ho,_⟩:=I.ok.funs.mem hb
 exact absurd (ZtM (Heap.lt_size ho) (ZtV I.sz h)) (Zun _)
theorem Inv.cne (I:Inv X pins σ H s):∀x c,X.env.cells.lookup x=some c->c≠X.env.locals:=fun x c e z=>by
 obtain⟨v,o,ho,hd⟩:=I.cell x c e
 obtain⟨m,⟨o',es,ep,ho',hd',_⟩,_⟩:=I.loc
 rw[z,ho'] at ho;cases ho;rw[hd'] at hd;cases hd
theorem Inv.funs (I:Inv X pins σ H s):s.heap.FunFrames X.base X.outer:=by
 have all:∀(l:List Env),(∀b∈frs l,b∈X.fs)->X.s₀.heap.FunFrames X.base l->s.heap.FunFrames X.base l:=by
  intro l
  induction l with
  |nil=>intro _ _;trivial
  |cons env r ih =>
   intro hs hl
   obtain⟨hk,⟨L,o,hf,hn,ho,hd⟩,hr⟩:=hl
   have hL:L∈X.fs:=hs L (by unfold frs;rw[Zvs,hf];exact ZuB)
   obtain⟨sl,e⟩:=I.base.slot L o ho (I.ok.frf L hL) hL fun z=>I.ok.exfs L z hL
   exact⟨hk,⟨L,_,hf,hn,e,hd⟩,ih (fun b hb=>hs b (by unfold frs;rw[Zvs,hf];exact Zui _ hb)) hr⟩
 exact all X.outer (fun _ hb=>hb) I.ok.funs
theorem Inv.stack (I:Inv X pins σ H s):s.heap.FunFrames X.base X.stack:=by
 rcases I.ok.stk with e|⟨e,hf⟩
 ·rw[e];exact I.funs
 ·rw[e]
  obtain⟨m,hn,_⟩:=I.loc
  refine .cons (by rw[I.ok.kind];decide) hf hn ?_ I.funs
  exact Heap.get?_none_of_le (ZtV I.ok.bsz I.ok.above)
theorem Inv.stkSub (I:Inv X pins σ H s):∀b∈frs X.stack,b∈X.env.locals::X.fs:=fun b hb=>by
 rcases I.ok.stk with e|⟨e,hf⟩
 ·rw[e] at hb;exact Zui _ hb
 ·rw[e] at hb
  unfold frs at hb
  rw[Zvs,hf] at hb
  exact hb
theorem Inv.stkFree (I:Inv X pins σ H s):∀b∈frs X.stack,H b=none:=fun b hb=>by
 rcases ZtN.mp (I.stkSub b hb) with e|hb
 ·rw[e];exact I.free
 ·obtain⟨_,o,ho,_⟩:=I.ok.funs.mem hb
  exact I.base.free b o ho (I.ok.frf b hb) fun z=>I.ok.exfs b z hb
theorem Inv.step {g':Array GenState}{t':Nat}{d':Drawn}{ch:List Addr} (I:Inv X pins σ H s)
  (hch:∀b∈ch,(b∈X.ex\/X.s₀.heap.objs.size<=b)/\b≠X.env.locals/\(∀x c,X.env.cells.lookup x=some c->c≠b)/\∀p∈X.pn++pins,p.1≠b)
  (keep:∀b o,b≠X.env.locals->b ∉ X.fs->b ∉ ch->s.heap.get? b=some o->H b=none->h'.get? b=some o)
  (slot:∀b o,b≠X.env.locals->b∈X.fs->b ∉ ch->s.heap.get? b=some o->H b=none->∃sl,h'.get? b=some { o with slots:=sl }) (free:∀b o,b ∉ ch->s.heap.get? b=some o->H b=none->H' b=none)
  (there:∀b o,b ∉ ch->s.heap.get? b=some o->∃o',h'.get? b=some o')
  (tups:∀b xs,H b=some (.tup xs)->H' b=some (.tup xs)) (frzs:∀b o u,H b=some (.frz o u)->H' b=some (.frz o u)) (tbls:∀b ps,H b=some (.tbl ps)->∃more,H' b=some (.tbl (ps++more)))
  (ns:∀m,s.heap.Ns X.env.locals m->h'.Ns X.env.locals m) (hok:HOk X.prog X.w H' h') (hg:AllBare g') :
  Inv X pins σ H' { s with heap:=h',gens:=g',drawn:=d',toks:=t' }:=by
 have neL:∀b o,X.s₀.heap.get? b=some o->b≠X.env.locals:=fun b o e=>ZtU (ZtM (Heap.lt_size e) I.ok.above)
 have neC:∀b o,X.s₀.heap.get? b=some o->b ∉ X.ex->b ∉ ch:=fun b o e hx hb=>by
  rcases (hch b hb).1 with z|z
  ·exact hx z
  ·exact absurd (ZtM (Heap.lt_size e) z) (Zun _)
 have cellK:∀x c,X.env.cells.lookup x=some c->∀v,s.heap.IsCell c v->h'.IsCell c v:=fun x c e v ⟨o,ho,hd⟩=>by
  have nch:c ∉ ch:=fun z=>(hch c z).2.2.1 x c e rfl
  by_cases hc:c∈X.fs
  ·obtain⟨sl,q⟩:=slot c o (I.cne x c e) hc nch ho (I.freeC x c e)
   exact⟨_,q,hd⟩
  ·exact⟨o,keep c o (I.cne x c e) hc nch ho (I.freeC x c e),hd⟩
 refine⟨I.ok,I.os,hg,⟨fun b o e n hb hx=>?_,fun b o e n hb hx=>?_,fun b o e n hx=>?_,fun b o e hx=>?_,fun b xs e=>tups b xs (I.base.tups b xs e),fun b o xs e=>frzs b o xs (I.base.frzs b o xs e),fun b ps e=>?_⟩, ?_,fun x c e=>?_, ?_,fun x c e=>?_,fun p hp=>?_,hok,I.len⟩
 ·exact keep b o (neL b o e) hb (neC b o e hx) (I.base.keep b o e n hb hx) (I.base.free b o e n hx)
 ·obtain⟨sl,e1⟩:=I.base.slot b o e n hb hx
  obtain⟨sl',e2⟩:=slot b _ (neL b o e) hb (neC b o e hx) e1 (I.base.free b o e n hx)
  exact⟨sl',e2⟩
 ·obtain⟨o',e1⟩:=I.base.there b o e hx
  exact free b o' (neC b o e hx) e1 (I.base.free b o e n hx)
 ·obtain⟨o',e1⟩:=I.base.there b o e hx
  exact there b o' (neC b o e hx) e1
 ·obtain⟨m1,e1⟩:=I.base.tbls b ps e
  obtain⟨m2,e2⟩:=tbls b _ e1
  exact⟨m1++m2,by rw[e2,Array.append_assoc]⟩
 ·obtain⟨m,hn,hl⟩:=I.loc
  refine⟨m,ns m hn,fun i x v e1 e2 e3=>?_⟩
  obtain⟨u,r,l⟩:=hl i x v e1 e2 e3
  refine⟨u,r, ?_⟩
  rcases l with l|⟨k,c,e,z⟩
  ·exact .inl l
  ·exact .inr ⟨k,c,e,cellK x c e _ z⟩
 ·obtain⟨v,z⟩:=I.cell x c e
  exact⟨v,cellK x c e v z⟩
 ·obtain⟨m,⟨o,_,_,ho,_⟩,_⟩:=I.loc
  exact free _ o (fun z=>(hch _ z).2.1 rfl) ho I.free
 ·obtain⟨v,o,ho,hd⟩:=I.cell x c e
  exact free c o (fun z=>(hch c z).2.2.1 x c e rfl) ho (I.freeC x c e)
 ·obtain⟨e,n,ne,nf,d⟩:=I.pin p hp
  have nch:p.1 ∉ ch:=fun z=>(hch p.1 z).2.2.2 p hp rfl
  exact⟨keep p.1 p.2 ne nf nch e n,free p.1 p.2 nch e n,ne,nf,d⟩
theorem Inv.un {t':Nat} (I:Inv X pins σ H s) (u:Un X.fs [] H H' s.heap h') (hok:HOk X.prog X.w H' h'):Inv X pins σ H' { s with heap:=h',toks:=t' }:=by
 obtain⟨m,⟨o,es,ep,ho,r⟩,_⟩:=id I.loc
 obtain⟨sl,hL⟩:=u.any ho I.free (by simp)
 exact I.step (g':=s.gens) (d':=s.drawn) (ch:=[]) (fun _ z=>nomatch z) (fun b o _ hb _ e n=>u.keep b o e n hb (by simp)) (fun b o _ hb _ e n=>u.slot b o e n hb (by simp)) (fun b o _ e n=>u.free b o e n (by simp)) (fun b o _ e=>u.there b o e (by simp)) u.tups u.frzs u.tbls (fun m' hm=>by
  obtain⟨o',es',ep',ho',r'⟩:=hm
  rw[ho] at ho';cases ho'
  exact⟨_,es',ep',hL,r'⟩) hok I.bare
theorem Inv.call {g':Array GenState}{t':Nat}{d':Drawn}{ch:List Addr} (I:Inv X pins σ H s) (u:Un (frs X.stack) ch H H' s.heap h') (hok:HOk X.prog X.w H' h') (hg:AllBare g')
  (hch:∀b∈ch,(b∈X.ex\/X.s₀.heap.objs.size<=b)/\b≠X.env.locals/\(∀x c,X.env.cells.lookup x=some c->c≠b)/\∀p∈X.pn++pins,p.1≠b) :
  Inv X pins σ H' { s with heap:=h',gens:=g',drawn:=d',toks:=t' }:=by
 obtain⟨m,⟨o,es,ep,ho,r⟩,_⟩:=id I.loc
 obtain⟨sl,hL⟩:=u.any ho I.free fun z=>(hch _ z).2.1 rfl
 exact I.step (ch:=ch) hch (fun b o hL hb hc e n=>u.keep b o e n (fun z=>(ZtN.mp (I.stkSub b z)).elim hL hb) hc) (fun b o _ _ hc e n=>u.any e n hc) (fun b o hc e n=>u.free b o e n hc) (fun b o hc e=>u.there b o e hc) u.tups u.frzs u.tbls (fun m' hm=>by
  obtain⟨o',es',ep',ho',r'⟩:=hm
  rw[ho] at ho';cases ho'
  exact⟨_,es',ep',hL,r'⟩) hok hg
theorem Inv.turned {t':Nat}{it:Addr} (I:Inv X pins σ H s) (k:∀b o,b≠it->s.heap.get? b=some o->h'.get? b=some o) (hn:H it=none) (hL:it≠X.env.locals)
  (h1:it∈X.ex\/X.s₀.heap.objs.size<=it) (h2:∀x c,X.env.cells.lookup x=some c->c≠it) (h3:∀p∈X.pn++pins,p.1≠it):Inv X pins σ H { s with heap:=h',toks:=t' }:=by
 have nit:∀b u,H b=some u->b≠it:=fun b u e z=>by rw[z,hn] at e;cases e
 refine I.step (g':=s.gens) (d':=s.drawn) (ch:=[it]) (fun b hb=>?_) (fun b o _ _ hc e _=>k b o (fun z=>hc (by simp[z])) e) (fun b o _ _ hc e _=>⟨o.slots,k b o (fun z=>hc (by simp[z])) e⟩) (fun _ _ _ _ n=>n)
  (fun b o hc e=>⟨o,k b o (fun z=>hc (by simp[z])) e⟩) (fun _ _ e=>e) (fun _ _ _ e=>e) (fun b ps e=>⟨#[],by rw[e];simp⟩) (fun m hm=>?_) (fun b u e=>?_) I.bare
 ·have e:b=it:=by simpa using hb
  subst e
  exact⟨h1,hL,h2,h3⟩
 ·obtain⟨o,es,ep,ho,r⟩:=hm
  exact⟨o,es,ep,k _ o (Ne.symm hL) ho,r⟩
 ·refine(I.hok b u e).stay (fun c v hc q=>k c v ?_ q) (fun _ q=>q) fun _ _ q=>q
  rcases hc with z|z
  ·rw[z];exact nit b u e
  ·exact nit c _ z
theorem Inv.tok (I:Inv X pins σ H s) (t:Nat):Inv X pins σ H { s with toks:=t }:=I.un (h':=s.heap) (t':=t) Un.refl I.hok
theorem Inv.kept {t':Nat} (I:Inv X pins σ H s) (k:∀b u,s.heap.get? b=some u->h'.get? b=some u):Inv X pins σ H { s with heap:=h',toks:=t' }:=I.un (Un.kept k) (I.hok.kept k)
theorem Inv.laid {a:Addr}{o:HO}{t':Nat} (I:Inv X pins σ H s) (k:∀b u,s.heap.get? b=some u->h'.get? b=some u) (hp:s.heap.objs.size<=a) (new:JA X.prog X.w (upd H a o) h' a o) :
  Inv X pins σ (upd H a o) { s with heap:=h',toks:=t' }:=I.un (Un.laid k hp (I.hok.fresh hp)) (I.hok.laid k hp new)
theorem Inv.write {x e:Addr}{o:HO}{t':Nat} (I:Inv X pins σ H s) (mu:Mut (H x)) (he:e=x\/H e=some (.own x)) (k:∀b u,b≠e->s.heap.get? b=some u->h'.get? b=some u) (heo:∃u,h'.get? e=some u)
  (new:JA X.prog X.w (upd H x o) h' x o):Inv X pins σ (upd H x o) { s with heap:=h',toks:=t' }:=I.un (Un.write mu he k heo) (I.hok.write mu he k heo new)
theorem Inv.pins_of {pins':List (Addr×Obj)} (I:Inv X pins σ H s) (h:∀p∈pins',s.heap.get? p.1=some p.2/\H p.1=none/\p.1≠X.env.locals/\p.1 ∉ X.fs/\∀v,p.2.data≠.cell v):Inv X pins' σ H s:=
 ⟨I.ok,I.os,I.bare,I.base,I.loc,I.cell,I.free,I.freeC,fun p hp=>(ZtD.mp hp).elim (fun z=>I.pin p (ZtF _ z)) (h p),I.hok,I.len⟩
theorem Zdn {N:List Str} (hN:N.Nodup) {i j:Nat}{x:Str} (a:N[i]?=some x) (b:N[j]?=some x):i=j:=by
 obtain⟨h1,e1⟩:=ZtC.mp a
 obtain⟨h2,e2⟩:=ZtC.mp b
 exact(List.getElem_inj hN).mp (e1.trans e2.symm)
theorem Qe {M:Model}{A:Around}{E:Value->Shared->Prop}{i:Nat}{x:Str}{v:V}{u:Value}{Q:Unit->Shared->Prop} (I:Inv X pins σ H s) (hN:X.N.Nodup) (hi:X.N[i]?=some x) (hx:Loc X.env.scope x) (r:Jt v u)
  (h:∀s',Inv X pins (σ.set i (some v)) H s'->(∃a,Heap.SameBut a s.heap s'.heap/\(a=X.env.locals\/X.env.cells.lookup x=some a))->Q () s') (hf:X.fn x=true\/X.env.scope.names.lookup x=some .local):wpAny M A (storeName X.env x u) Q E s:=by
 obtain⟨m,hn,hl⟩:=id I.loc
 have hcls:(X.env.scope.kind==.class || (X.env.scope.kind==.module&&X.env.locals != X.env.globals))=false:=by rw[I.ok.kind];rfl
 have hiσ:i<σ.length:=by rw[I.len];exact(ZtC.mp hi).1
 have cne:=I.cne
 have tracked:∀{a:Addr}{h':Heap},(∃o,s.heap.get? a=some o/\H a=none)->Heap.SameBut a s.heap h'->HOk X.prog X.w H h':=fun {a h'} ha hs b ob e=>by
  obtain⟨_,_,hfree⟩:=ha
  refine(I.hok b ob e).stay (fun c w' hc q=>(hs.2 c ?_).trans q) (fun _ q=>q) fun _ _ q=>q
  rintro rfl
  rcases hc with rfl|hc
  ·rw[hfree] at e;cases e
  ·rw[hfree] at hc;cases hc
 rcases hx with hk|hk
 ·refine wpAny_storeName_local hk hn (fun h' hn' hs=>?_) hcls
  obtain⟨oL,_,_,hoL,_⟩:=id hn
  refine h _ ⟨I.ok,I.os,I.bare,⟨fun b o e n hb hx=>?_,fun b o e n hb hx=>?_,I.base.free,fun b o e hx=>?_,I.base.tups,I.base.frzs,I.base.tbls⟩,⟨_,hn',fun j y v' e1 e2 e3=>?_⟩,fun y c e=>?_,I.free,I.freeC,fun p hp=>?_,tracked ⟨oL,hoL,I.free⟩ hs,by simpa using I.len⟩ ⟨_,hs,.inl rfl⟩
  ·exact(hs.2 b (ZtU (ZtM (Heap.lt_size e) I.ok.above))).trans (I.base.keep b o e n hb hx)
  ·obtain⟨sl,e1⟩:=I.base.slot b o e n hb hx
   exact⟨sl,(hs.2 b (ZtU (ZtM (Heap.lt_size e) I.ok.above))).trans e1⟩
  ·obtain⟨o',e1⟩:=I.base.there b o e hx
   exact⟨o',(hs.2 b (ZtU (ZtM (Heap.lt_size e) I.ok.above))).trans e1⟩
  ·by_cases hj:j=i
   ·subst hj
    rw[hi] at e1;cases e1
    rw[ZtX hiσ] at e2
    cases e2
    exact⟨u,r,.inl ⟨hk,by simp⟩⟩
   ·rw[Zuj (Ne.symm hj)] at e2
    obtain⟨u',r',q⟩:=hl j y v' e1 e2 e3
    refine⟨u',r', ?_⟩
    rcases q with ⟨k,e⟩|⟨k,c,e,z⟩
    ·refine .inl ⟨k, ?_⟩
     have:y≠x:=fun e=>hj (Zdn hN e1 (e▸hi))
     simp[this,e]
    ·exact .inr ⟨k,c,e,z.sameBut hs (cne y c e)⟩
  ·obtain⟨w',z⟩:=I.cell y c e
   exact⟨w',z.sameBut hs (cne y c e)⟩
  ·obtain⟨e,n,ne,nf,d⟩:=I.pin p hp
   exact⟨(hs.2 p.1 ne).trans e,n,ne,nf,d⟩
 ·have hfn:X.fn x=true:=by
   rcases hf with z|z
   ·exact z
   ·rw[z] at hk;cases hk
  obtain⟨c,hc⟩:=I.ok.has x (.inl hk)
  obtain⟨w',z⟩:=I.cell x c hc
  refine wpAny_storeName_cell I.ok.kind hk hc z (fun h' hc' hs=>?_)
  obtain⟨oc,hoc,hocd⟩:=id z
  refine h { s with heap:=h' } ⟨I.ok,I.os,I.bare,⟨fun b o e n hb hx=>?_,fun b o e n hb hx=>?_,I.base.free,fun b o e hx=>?_,I.base.tups,I.base.frzs,I.base.tbls⟩,⟨m,hn.sameBut hs (Ne.symm (cne x c hc)),fun j y v' e1 e2 e3=>?_⟩,fun y c' e=>?_,I.free,I.freeC,fun p hp=>?_,tracked ⟨oc,hoc,I.freeC x c hc⟩ hs,by simpa using I.len⟩ ⟨c,hs,.inr hc⟩
  ·exact(hs.2 b (ZtU (ZtM (Heap.lt_size e) (I.ok.cab x c hfn hc)))).trans (I.base.keep b o e n hb hx)
  ·obtain⟨sl,e1⟩:=I.base.slot b o e n hb hx
   exact⟨sl,(hs.2 b (ZtU (ZtM (Heap.lt_size e) (I.ok.cab x c hfn hc)))).trans e1⟩
  ·obtain⟨o',e1⟩:=I.base.there b o e hx
   exact⟨o',(hs.2 b (ZtU (ZtM (Heap.lt_size e) (I.ok.cab x c hfn hc)))).trans e1⟩
  ·by_cases hj:j=i
   ·subst hj
    rw[hi] at e1;cases e1
    rw[ZtX hiσ] at e2
    cases e2
    exact⟨u,r,.inr ⟨.inl hk,c,hc,hc'⟩⟩
   ·rw[Zuj (Ne.symm hj)] at e2
    obtain⟨u',r',q⟩:=hl j y v' e1 e2 e3
    refine⟨u',r', ?_⟩
    rcases q with q|⟨k,c',e,z'⟩
    ·exact .inl q
    ·refine .inr ⟨k,c',e,z'.sameBut hs ?_⟩
     rintro rfl
     exact hj (Zdn hN e1 (I.ok.inj _ _ _ e hc▸hi))
  ·by_cases hcc:c'=c
   ·subst hcc;exact⟨_,hc'⟩
   ·obtain⟨w2,z2⟩:=I.cell y c' e
    exact⟨w2,z2.sameBut hs hcc⟩
  ·obtain⟨e,n,ne,nf,d⟩:=I.pin p hp
   refine⟨(hs.2 p.1 ?_).trans e,n,ne,nf,d⟩
   intro q
   rw[q,hoc] at e
   have q':oc=p.2:=Option.some.inj e
   exact d w' (by rw[<- q'];exact hocd)
theorem UO {M:Model}{A:Around}{E:Value->Shared->Prop}{i:Nat}{x:Str}{v:V}{u:Value}{Q:Unit->Shared->Prop} (I:Inv X pins σ H s) (hN:X.N.Nodup) (hi:X.N[i]?=some x) (hx:Loc X.env.scope x) (r:Jt v u)
  (h:∀s',Inv X pins (σ.set i (some v)) H s'->Q () s') (hf:X.fn x=true\/X.env.scope.names.lookup x=some .local):wpAny M A (storeName X.env x u) Q E s:=
 Qe I hN hi hx r (fun s' I' _=>h s' I') hf
theorem Inv.call' {s':Shared}{ch:List Addr} (I:Inv X pins σ H s) (ho:s'.os=s.os) (u:Un (frs X.stack) ch H H' s.heap s'.heap) (hok:HOk X.prog X.w H' s'.heap) (hg:AllBare s'.gens)
  (hch:∀b∈ch,(b∈X.ex\/X.s₀.heap.objs.size<=b)/\b≠X.env.locals/\(∀x c,X.env.cells.lookup x=some c->c≠b)/\∀p∈X.pn++pins,p.1≠b):Inv X pins σ H' s':=by
 obtain⟨h',g',d',t',o'⟩:=s'
 have e:o'=s.os:=ho
 subst e
 exact I.call (g':=g') (t':=t') (d':=d') u hok hg hch
end
noncomputable abbrev XK:=Value->Option Addr->Hp->Prop
noncomputable abbrev St:=List (Option V)
noncomputable abbrev VK:=V->Hp->Prop
noncomputable abbrev TE:=St->Hp->VK->Prop
noncomputable abbrev TT:=St->Hp->(Bool->Hp->Prop)->Prop
noncomputable abbrev TA:=St->Hp->(List V->Hp->Prop)->Prop
structure ZgH where
 nx:St->Hp->Prop
 rt:VK
 bk:St->Hp->Prop:=fun _ _=>False
 ct:St->Hp->Prop:=fun _ _=>False
noncomputable abbrev TS:=ZgH->St->Hp->Prop
def EP (X:Cx) (pins:List (Addr×Obj)) (σ:St) (Q:VK) (u:Value) (s':Shared):Prop:=∃v H',Inv X pins σ H' s'/\Jt v u/\Q v H'
def TP (X:Cx) (pins:List (Addr×Obj)) (σ:St) (Q:Bool->Hp->Prop) (b:Bool) (s':Shared):Prop:=∃H',Inv X pins σ H' s'/\Q b H'
def AP (X:Cx) (pins:List (Addr×Obj)) (σ:St) (Q:List V->Hp->Prop) (us:List Value) (s':Shared):Prop:=∃vs H',Inv X pins σ H' s'/\Jb vs us/\Q vs H'
def SP (X:Cx) (pins:List (Addr×Obj)) (D:ZgH) (f:Flow) (s':Shared):Prop:=
 match f with
 |.next=>∃σ' H',Inv X pins σ' H' s'/\D.nx σ' H'
 |.brk=>∃σ' H',Inv X pins σ' H' s'/\D.bk σ' H'
 |.cont=>∃σ' H',Inv X pins σ' H' s'/\D.ct σ' H'
 |.ret u=>∃v σ' H',Inv X pins σ' H' s'/\Jt v u/\D.rt v H'
def PE (X:Cx) (e:Expr) (t:TE):Prop:=
 ∀(pins:List (Addr×Obj)) (s:Shared) (σ:St) (H:Hp) (Q:VK),Inv X pins σ H s->t σ H Q->wpAny (model X.prog X.w) X.A (eval e X.env) (EP X pins σ Q) X.xe s
def PT (X:Cx) (e:Expr) (t:TT):Prop:=
 ∀(pins:List (Addr×Obj)) (s:Shared) (σ:St) (H:Hp) (Q:Bool->Hp->Prop),Inv X pins σ H s->t σ H Q->wpAny (model X.prog X.w) X.A (isTrue e X.env (eval e X.env)) (TP X pins σ Q) X.xe s
def PW (X:Cx) (e:Expr) (t:TT):Prop:=
 ∀(whole:Sem Value) (pins:List (Addr×Obj)) (s:Shared) (σ:St) (H:Hp) (Q:Bool->Hp->Prop),Inv X pins σ H s->t σ H Q->wpAny (model X.prog X.w) X.A (isTrue e X.env whole) (TP X pins σ Q) X.xe s
theorem PW.pt {X:Cx}{e:Expr}{t:TT} (h:PW X e t):PT X e t:=h _
def PA (X:Cx) (es:List Expr) (t:TA):Prop:=
 ∀(pos:Pos) (pins:List (Addr×Obj)) (s:Shared) (σ:St) (H:Hp) (Q:List V->Hp->Prop),Inv X pins σ H s->t σ H Q->wpAny (model X.prog X.w) X.A (spliced (backTo pos (starEach es X.env))) (AP X pins σ Q) X.xe s
def PS (X:Cx) (st:Stmt) (t:TS):Prop:=
 ∀(pins:List (Addr×Obj)) (s:Shared) (σ:St) (H:Hp) (D:ZgH),Inv X pins σ H s->t D σ H->wpAny (model X.prog X.w) X.A (exec st X.env) (SP X pins D) X.xe s
def PSs (X:Cx) (st:List Stmt) (t:TS):Prop:=
 ∀(pins:List (Addr×Obj)) (s:Shared) (σ:St) (H:Hp) (D:ZgH),Inv X pins σ H s->t D σ H->wpAny (model X.prog X.w) X.A (execs st X.env) (SP X pins D) X.xe s
theorem thn {α:Type}{t:Sem α}{Q Q':α->Shared->Prop}{M:Model}{A:Around}{E:Value->Shared->Prop}{s:Shared} (h:wpAny M A t Q E s) (hQ:∀a s,Q a s->Q' a s):wpAny M A t Q' E s:=wpAny_mono h hQ fun _ _ x=>x
section
variable {X:Cx}
noncomputable def ZaW (i:Nat):TE:=fun σ H Q=>∃v,σ[i]?=some (some v)/\Q v H
noncomputable def tC (v:V):TE:=fun _ H Q=>Q v H
theorem Zk5 {i:Nat}{x:Str}{pos:Pos} (hN:X.N[i]?=some x) (hv:Vis X.env.scope x) (hd:(x==("__debug__":Str))=false:=by decide) (hcd:(x==("__classdict__":Str))=false:=by decide):PE X (.Name x pos) (ZaW i):=by
 intro pins s σ H Q I h
 obtain⟨v,e,h⟩:=h
 obtain⟨m,hn,hl⟩:=I.loc
 obtain⟨u,r,l⟩:=hl i x v hN e hv
 have fin:EP X pins σ Q u s:=⟨v,H,I,r,h⟩
 rcases l with ⟨hk,hm⟩|⟨hk,c,hc,hcell⟩
 ·exact wpAny_Name (wpAny_loadName_local I.ok.kind hk hn hm fin) hd
 ·rcases hk with hk|hk
  ·exact wpAny_Name (wpAny_loadName_cell I.ok.kind hk hc hcell fin) hd
  ·exact wpAny_Name (wpAny_loadName_free I.ok.kind hk hc hcell fin hcd) hd
theorem Zi {i j pos}:PE X (.Constant (.int i) j pos) (tC (.int i)):=fun _ _ _ H _ I h=>wpAny_Constant_int ⟨.int i,H,I.tok _,⟨_,rfl⟩,h⟩
theorem UD {b j pos}:PE X (.Constant (.bool b) j pos) (tC (.bl b)):=fun _ _ _ H _ I h=>Constant_bool ⟨.bl b,H,I,rfl,h⟩
theorem Zbe {j pos}:PE X (.Constant .none j pos) (tC .non):=fun _ _ _ H _ I h=>Constant_none ⟨.non,H,I,rfl,h⟩
theorem JQ {x j pos}:PE X (.Constant (.str x) j pos) (tC (.str x)):=fun _ _ _ H _ I h=>Calls.Constant_str ⟨.str x,H,I.tok _,⟨_,rfl⟩,h⟩
def Gl (X:Cx) (x:Str):Prop:=X.env.kindOf x=some .globalImplicit
theorem Qz {E:Value->Shared->Prop}{pins:List (Addr×Obj)}{s:Shared}{σ:St}{H:Hp}{x:Str}{u:Value}{pos:Pos}{Q:Value->Shared->Prop} (I:Inv X pins σ H s) (hg:Gl X x) (hm:X.mg x=some u) (h:Q u s)
  (hd:(x==("__debug__":Str))=false:=by decide):wpAny (model X.prog X.w) X.A (eval (.Name x pos) X.env) Q E s:=
 Calls.Name_function_global I.ok.kind hg (Calls.loadGlobal_global (by rw[I.ok.glob];exact I.mod.glob.keeps I.bk) hm h) hd
theorem Zbu {E:Value->Shared->Prop}{pins:List (Addr×Obj)}{s:Shared}{σ:St}{H:Hp}{x:Str}{u:Value}{pos:Pos}{Q:Value->Shared->Prop} (I:Inv X pins σ H s) (hg:Gl X x) (hm:X.mg x=none) (hv:bootBuiltins x=some u) (h:Q u s)
  (hn:x ≠ "__name__":=by decide) (hd:(x==("__debug__":Str))=false:=by decide):wpAny (model X.prog X.w) X.A (eval (.Name x pos) X.env) Q E s:=by
 obtain⟨mb,h1,h2⟩:=I.mod.blt
 exact Calls.Name_function_global I.ok.kind hg (Calls.loadGlobal_builtin (by rw[I.ok.glob];exact I.mod.glob.keeps I.bk) hm (by rw[I.ok.blt];exact h1.keeps I.bk) ((h2 x hn).trans hv) h) hd
theorem Zje {x:Str}{v:V}{u:Value}{pos:Pos} (hg:Gl X x) (hm:X.mg x=some u) (r:Jt v u) (hd:(x==("__debug__":Str))=false:=by decide):PE X (.Name x pos) (tC v):=
 fun _ _ _ H _ I h=>Qz I hg hm ⟨v,H,I,r,h⟩ hd
theorem JF {x:Str}{v:V}{u:Value}{pos:Pos} (hg:Gl X x) (hm:X.mg x=none) (hv:bootBuiltins x=some u) (r:Jt v u) (hn:x ≠ "__name__":=by decide) (hd:(x==("__debug__":Str))=false:=by decide):PE X (.Name x pos) (tC v):=
 fun _ _ _ H _ I h=>Zbu I hg hm hv ⟨v,H,I,r,h⟩ hn hd
variable {a b:Expr}{ta tb:TE}{pos:Pos}
def PC (X:Cx) (op:CmpOp) (a b:Expr) (t:TE):Prop:=
 ∀(pins:List (Addr×Obj)) (s:Shared) (σ:St) (H:Hp) (Q:VK),Inv X pins σ H s->t σ H Q ->
  wpAny (model X.prog X.w) X.A (eval a X.env) (fun v s₁=>wpAny (model X.prog X.w) X.A (eval b X.env) (fun u s₂=>wpAny (model X.prog X.w) X.A (compareOp op v u) (EP X pins σ Q) X.xe s₂) X.xe s₁) X.xe s
theorem Zhu (b:Expr) {op:CmpOp} (h:op≠.In) (h2:op≠.NotIn):behindInMarks op b=false:=by
 have e1:(op==CmpOp.In)=false:=by cases op<;>first|rfl|exact absurd rfl h
 have e2:(op==CmpOp.NotIn)=false:=by cases op<;>first|rfl|exact absurd rfl h2
 cases b<;>simp[behindInMarks,e1,e2]
noncomputable def tB (t:TE):TT:=fun σ H Q=>t σ H fun x H1=>∃c,x=.bl c/\Q c H1
theorem ZeS {op:CmpOp}{t:TE} (h:PC X op a b t) (h1:behindInMarks op b=false:=by first|exact Zhu _ (by decide) (by decide)|rfl):PT X (.Compare a [op] [b] pos) (tB t):=by
 intro pins s σ H Q I hw
 refine wpAny_isTrue_Compare1 (thn (h pins s σ H _ I hw) fun v s1 h1=>thn h1 fun u s2 h2=>thn h2 fun c s3 ⟨x,H1,I1,r1,q1⟩=>?_) h1
 obtain⟨d,rfl,q⟩:=q1
 cases r1
 exact wpAny_truthy_bool ⟨H1,I1,q⟩
theorem JO {e:Expr}{t:TE} (h:PE X e t) (he:∀whole,isTrue e X.env whole=(do let v <- whole;standAt e.pos;holding [v] (truthy v)):=by exact fun _=>rfl):PT X e (tB t):=by
 intro pins s σ H Q I hw
 refine isTrue_plain (thn (h pins s σ H _ I hw) fun v s1 ⟨x,H1,I1,r1,q1⟩=>?_) (he _)
 obtain⟨d,rfl,q⟩:=q1
 cases r1
 exact wpAny_truthy_bool ⟨H1,I1,q⟩
variable {tA tB':TT}{ZgA:List Expr}
noncomputable def Zm7 (t u:TT):TT:=fun σ H Q=>t σ H fun c H1=>if c=true then u σ H1 Q else Q false H1
noncomputable def tOr (t u:TT):TT:=fun σ H Q=>t σ H fun c H1=>if c=true then Q true H1 else u σ H1 Q
noncomputable def Zm3 (t:TT):TT:=fun σ H Q=>t σ H fun c H1=>Q (!c) H1
theorem ZbZ (ha:PT X a tA):PW X (.BoolOp .And [a] pos) tA:=by
 intro wh pins s σ H Q I h
 refine isTrue_and (thn (ha pins s σ H Q I h) fun c s1 e=>?_)
 cases c with
 |true=>exact isTrue_and_nil e
 |false=>exact e
theorem Vy (ha:PT X a tA):PW X (.BoolOp .Or [a] pos) tA:=by
 intro wh pins s σ H Q I h
 refine isTrue_or (thn (ha pins s σ H Q I h) fun c s1 e=>?_)
 cases c with
 |false=>exact isTrue_or_nil e
 |true=>exact e
theorem ZeQ (ha:PT X a tA) (hb:PW X (.BoolOp .And (b::ZgA) pos) tB'):PW X (.BoolOp .And (a::b::ZgA) pos) (Zm7 tA tB'):=by
 intro wh pins s σ H Q I h
 refine isTrue_and (thn (ha pins s σ H _ I h) fun c s1 ⟨H1,I1,q1⟩=>?_)
 cases c with
 |true=>exact hb wh pins s1 σ H1 Q I1 q1
 |false=>exact⟨H1,I1,q1⟩
theorem Vs (ha:PT X a tA) (hb:PW X (.BoolOp .Or (b::ZgA) pos) tB'):PW X (.BoolOp .Or (a::b::ZgA) pos) (tOr tA tB'):=by
 intro wh pins s σ H Q I h
 refine isTrue_or (thn (ha pins s σ H _ I h) fun c s1 ⟨H1,I1,q1⟩=>?_)
 cases c with
 |true=>exact⟨H1,I1,q1⟩
 |false=>exact hb wh pins s1 σ H1 Q I1 q1
theorem JP (ha:PT X a tA):PT X (.UnaryOp .Not a pos) (Zm3 tA):=by
 intro pins s σ H Q I h
 exact isTrue_not (ha pins s σ H (fun c H1=>Q (!c) H1) I h)
noncomputable def Zku (ta tb:TE):TE:=fun σ H Q=>ta σ H fun x H1=>∃c,x=.bl c/\if c=true then tb σ H1 Q else Q (.bl false) H1
noncomputable def Zko (ta:TE):TE:=fun σ H Q=>ta σ H fun x H1=>∃c,x=.bl c/\Q (.bl (!c)) H1
theorem QQ {op}{t:TE} (h:PE X a t):PE X (.BoolOp op [a] pos) t:=fun pins s σ H Q I hw=>BoolOp_one (h pins s σ H Q I hw)
theorem QR (ha:PE X a ta) (hb:PE X (.BoolOp .And (b::ZgA) pos) tb):PE X (.BoolOp .And (a::b::ZgA) pos) (Zku ta tb):=by
 intro pins s σ H Q I h
 refine BoolOp_and (thn (ha pins s σ H _ I h) fun v s1 ⟨x,H1,I1,r1,q1⟩=>?_)
 obtain⟨c,rfl,q1⟩:=q1
 cases r1
 refine wpAny_truthy_bool ?_
 cases c with
 |true=>exact hb pins s1 σ H1 Q I1 q1
 |false=>exact⟨.bl false,H1,I1,rfl,q1⟩
theorem Zk6 (ha:PE X a ta):PE X (.UnaryOp .Not a pos) (Zko ta):=by
 intro pins s σ H Q I h
 refine UnaryOp_ (thn (ha pins s σ H _ I h) fun v s1 ⟨x,H1,I1,r1,q1⟩=>?_)
 obtain⟨c,rfl,q1⟩:=q1
 cases r1
 exact not_of (wpAny_truthy_bool ⟨.bl (!c),H1,I1,rfl,q1⟩)
end
def SqL (K:W.Frag) (H:Hp) (a:Addr) (xs:List V):Prop:=
 Rd H a (.lst xs) \/
  ∃(o:Obj) (its:Array Value) (n:Nat),K.lookup a=some o/\o.cls=.type "list"/\o.dict=none/\o.data=.seq its n/\its.size<=sizeLine/\Jb xs its.toList
def SqT (K:W.Frag) (H:Hp) (a:Addr) (xs:List V):Prop:=
 Rd H a (.tup xs) \/
  ∃(o:Obj) (its:Array Value) (n:Nat),K.lookup a=some o/\o.cls=.type "tuple"/\o.data=.seq its n/\its.size<=sizeLine/\Jb xs its.toList
noncomputable def Zng:Value->Option V
 |.none=>some .non
 |.bool b=>some (.bl b)
 |.int i _=>some (.int i)
 |.str x _=>some (.str x)
 |.bytes b _=>some (.byt b)
 |.float b _=>some (.flt b)
 |.ref a=>some (.ref a)
 |.type n=>some (.ty n)
 |_=>none
theorem Jt.abs {x:V}{u:Value} (r:Jt x u):Zng u=some x:=by
 cases x with
 |non=>cases r;rfl
 |bl _=>cases r;rfl
 |int _=>obtain⟨t,rfl⟩:=r;rfl
 |str _=>obtain⟨t,rfl⟩:=r;rfl
 |byt _=>obtain⟨t,rfl⟩:=r;rfl
 |flt _=>obtain⟨t,rfl⟩:=r;rfl
 |ref _=>cases r;rfl
 |ty _=>cases r;rfl
theorem Jt.inj {x y:V}{u:Value} (r:Jt x u) (q:Jt y u):x=y:=Option.some.inj (r.abs.symm.trans q.abs)
theorem Jb.inj:∀{xs ys:List V}{us:List Value},Jb xs us->Jb ys us->xs=ys
 |_,_,_,.nil,.nil=>rfl
 |_,_,_,.cons r t,.cons r' t'=>by rw[r.inj r',Jb.inj t t']
section
variable {X:Cx}{pins:List (Addr×Obj)}{σ:St}{H:Hp}{s:Shared}{a:Addr}{xs ys:List V}
theorem SqL.of {K:W.Frag} (h:H a=some (.lst xs)):SqL K H a xs:=.inl (.inl h)
theorem Inv.list (I:Inv X pins σ H s) (h:SqL X.K H a xs):∃its:List Value,Jb xs its/\PlainL s.heap a its.toArray/\xs.length<=sizeLine:=by
 rcases h with h|⟨o,its,n,hk,hc,hd,hs,hz,r⟩
 ·obtain⟨z,its,n,r,e⟩:=h.ok I.hok
  exact⟨its,r,⟨_,n,e,rfl,rfl,rfl⟩,z⟩
 ·refine⟨its.toList,r,⟨o,n,I.kIn a o hk,hc,hd,by simpa using hs⟩, ?_⟩
  have e:=r.length
  simp only[ZtH] at e
  omega
theorem Inv.tuple (I:Inv X pins σ H s) (h:SqT X.K H a xs):∃its:List Value,Jb xs its/\IsTup s.heap a its.toArray/\xs.length<=sizeLine:=by
 rcases h with h|⟨o,its,n,hk,hc,hs,hz,r⟩
 ·obtain⟨z,its,r,p⟩:=h.ok I.hok
  exact⟨its,r,p,z⟩
 ·refine⟨its.toList,r,⟨o,I.kIn a o hk,hc,n,by simpa using hs⟩, ?_⟩
  have e:=r.length
  simp only[ZtH] at e
  omega
theorem Inv.list_inj (I:Inv X pins σ H s) (h:SqL X.K H a xs) (h':SqL X.K H a ys):xs=ys:=by
 obtain⟨its,r,⟨o,n,e,_,_,d⟩,_⟩:=I.list h
 obtain⟨its',r',⟨o',n',e',_,_,d'⟩,_⟩:=I.list h'
 rw[e] at e';cases e'
 rw[d] at d'
 injection d' with d1 _
 have:its=its':=by simpa using congrArg Array.toList d1
 subst this
 exact r.inj r'
theorem Inv.tuple_inj (I:Inv X pins σ H s) (h:SqT X.K H a xs) (h':SqT X.K H a ys):xs=ys:=by
 obtain⟨its,r,⟨o,e,_,n,d⟩,_⟩:=I.tuple h
 obtain⟨its',r',⟨o',e',_,n',d'⟩,_⟩:=I.tuple h'
 rw[e] at e';cases e'
 rw[d] at d'
 injection d' with d1 _
 have:its=its':=by simpa using congrArg Array.toList d1
 subst this
 exact r.inj r'
end
noncomputable abbrev Cx.wish (X:Cx) (E:Value->Shared->Prop):Cx:={ X with xe:=E }
noncomputable abbrev Cx.nox (X:Cx):Cx:=X.wish fun _ _=>False
theorem Cx.Ok.wish {X:Cx} (ok:X.Ok) (E:Value->Shared->Prop):(X.wish E).Ok:=
 ⟨ok.mod,ok.kind,ok.glob,ok.blt,ok.above,ok.inj,ok.has,ok.cab,ok.hd,ok.frames,ok.stk,ok.exf,ok.bs,ok.bsz,ok.noex,ok.exfs,ok.funs,ok.frf⟩
theorem Cx.Ok.unwish {X:Cx}{E:Value->Shared->Prop} (ok:(X.wish E).Ok):X.Ok:=
 ⟨ok.mod,ok.kind,ok.glob,ok.blt,ok.above,ok.inj,ok.has,ok.cab,ok.hd,ok.frames,ok.stk,ok.exf,ok.bs,ok.bsz,ok.noex,ok.exfs,ok.funs,ok.frf⟩
section
variable {X:Cx}{pins:List (Addr×Obj)}{σ:St}{H:Hp}{s:Shared}{E:Value->Shared->Prop}
theorem Inv.wish (I:Inv X pins σ H s) (E:Value->Shared->Prop):Inv (X.wish E) pins σ H s:=⟨I.ok.wish E,I.os,I.bare,I.base,I.loc,I.cell,I.free,I.freeC,I.pin,I.hok,I.len⟩
theorem Inv.unwish (I:Inv (X.wish E) pins σ H s):Inv X pins σ H s:=⟨I.ok.unwish,I.os,I.bare,I.base,I.loc,I.cell,I.free,I.freeC,I.pin,I.hok,I.len⟩
theorem SP.unwish {D:ZgH}{f:Flow}{s':Shared} (h:SP (X.wish E) pins D f s'):SP X pins D f s':=by
 cases f with
 |next=>obtain⟨σ',H',I,q⟩:=h;exact⟨σ',H',I.unwish,q⟩
 |brk=>obtain⟨σ',H',I,q⟩:=h;exact⟨σ',H',I.unwish,q⟩
 |cont=>obtain⟨σ',H',I,q⟩:=h;exact⟨σ',H',I.unwish,q⟩
 |ret u=>obtain⟨v,σ',H',I,r,q⟩:=h;exact⟨v,σ',H',I.unwish,r,q⟩
theorem PSs.nox {st:List Stmt}{t:TS} (h:PSs X.nox st t):PSs X st t:=fun pins s σ H D I hw =>
 wpAny_mono (h pins s σ H D (I.wish _) hw) (fun _ _ q=>q.unwish) fun _ _ z=>False.elim z
end
section
variable {X:Cx}{st:Stmt}{ZgA:List Stmt}{t u:TS}{e:Expr}{te:TE}{pos:Pos}
noncomputable def Zkp:TS:=fun D σ H=>D.nx σ H
noncomputable def Zm2 (t u:TS):TS:=fun D σ H=>t { D with nx:=u D } σ H
theorem ZA:PSs X [] Zkp:=fun _ _ σ H _ I h=>wpAny_execs_nil ⟨σ,H,I,h⟩
theorem Zg (h1:PS X st t) (h2:PSs X ZgA u):PSs X (st::ZgA) (Zm2 t u):=by
 intro pins s σ H D I h
 refine wpAny_execs_cons (thn (h1 pins s σ H { D with nx:=u D } I h) fun f s1 q=>?_)
 cases f with
 |next =>
  obtain⟨σ',H',I',q⟩:=q
  exact h2 pins s1 σ' H' D I' q
 |ret v=>exact q
 |brk=>exact q
 |cont=>exact q
theorem Zl (h1:PS X st t):PSs X [st] t:=by
 intro pins s σ H D I h
 refine wpAny_execs_cons (thn (h1 pins s σ H D I h) fun f s1 q=>?_)
 cases f with
 |next=>exact wpAny_execs_nil q
 |ret v=>exact q
 |brk=>exact q
 |cont=>exact q
theorem Inv.quiet {pins:List (Addr×Obj)}{σ:St}{H:Hp}{s:Shared} (I:Inv X pins σ H s):interactive X.env=false:=by simp[interactive,I.ok.kind]
noncomputable def ZdO (te:TE):TS:=fun D σ H=>te σ H fun _ H1=>D.nx σ H1
theorem J3 (he:PE X e te) (hs:swapsWith e none pos.line X.env=pure false:=by rfl):PS X (.Expr e pos) (ZdO te):=by
 intro pins s σ H D I h
 exact wpAny_Expr_any (thn (he pins s σ H _ I h) fun v s1 ⟨x,H1,I1,r1,q1⟩=>⟨σ,H1,I1,q1⟩) I.quiet hs
noncomputable def ZlC (te:TE):TS:=fun D σ H=>te σ H D.rt
theorem Z3 (he:PE X e te):PS X (.Return (some e) pos) (ZlC te):=by
 intro pins s σ H D I h
 exact wpAny_Return_some (thn (he pins s σ H _ I h) fun v s1 ⟨x,H1,I1,r1,q1⟩=>⟨x,σ,H1,I1,r1,q1⟩)
noncomputable def Zm4 (c:TT) (t u:TS):TS:=fun D σ H=>c σ H fun b H1=>if b=true then t D σ H1 else u D σ H1
theorem Jm {c:Expr}{a b:List Stmt}{tc:TT} (hc:PT X c tc) (ha:PSs X a t) (hb:PSs X b u):PS X (.If c a b pos) (Zm4 tc t u):=by
 intro pins s σ H D I h
 refine wpAny_If (thn (hc pins s σ H _ I h) fun d s1 ⟨H1,I1,q1⟩=>?_)
 cases d with
 |true=>exact ha pins s1 σ H1 D I1 q1
 |false=>exact hb pins s1 σ H1 D I1 q1
end
noncomputable abbrev TG:=V->St->Hp->(St->Hp->Prop)->Prop
noncomputable abbrev TGs:=List V->St->Hp->(St->Hp->Prop)->Prop
def PG (X:Cx) (target:Expr) (t:TG):Prop:=
 ∀(pins:List (Addr×Obj)) (s:Shared) (σ:St) (H:Hp) (v:V) (u:Value) (Q:St->Hp->Prop),Inv X pins σ H s->Jt v u->t v σ H Q ->
  wpAny (model X.prog X.w) X.A (assign target X.env u) (fun _ s'=>∃σ' H',Inv X pins σ' H' s'/\Q σ' H') X.xe s
def PGs (X:Cx) (ts:List Expr) (t:TGs):Prop:=
 ∀(pins:List (Addr×Obj)) (s:Shared) (σ:St) (H:Hp) (vs:List V) (us:List Value) (Q:St->Hp->Prop),Inv X pins σ H s->Jb vs us->t vs σ H Q ->
  wpAny (model X.prog X.w) X.A (assignInOrder ((assignEach ts X.env).map (·.2)) us) (fun _ s'=>∃σ' H',Inv X pins σ' H' s'/\Q σ' H') X.xe s
noncomputable abbrev Zl6:=V->V->V->Hp->(Hp->Prop)->Prop
def Zmx (X:Cx) (t:Zl6):Prop:=
 ∀(pins:List (Addr×Obj)) (s:Shared) (σ:St) (H:Hp) (o i v:V) (ov iv u:Value) (Q:Hp->Prop),Inv X pins σ H s->Jt o ov->Jt i iv->Jt v u->t o i v H Q ->
  wpAny (model X.prog X.w) X.A (setItem ov iv u) (fun _ s'=>∃H',Inv X pins σ H' s'/\Q H') X.xe s
noncomputable abbrev TIp:=V->V->Hp->VK->Prop
def PIp (X:Cx) (op:Operator) (t:TIp):Prop:=
 ∀(pins:List (Addr×Obj)) (s:Shared) (σ:St) (H:Hp) (x y:V) (v u:Value) (Q:VK),Inv X pins σ H s->Jt x v->Jt y u->t x y H Q ->
  wpAny (model X.prog X.w) X.A (inplaceOp op v u) (EP X pins σ Q) X.xe s
section
variable {X:Cx}{pos:Pos}
noncomputable def ZaB (i:Nat):TG:=fun v σ H Q=>Q (σ.set i (some v)) H
theorem Jg {i:Nat}{x:Str} (hN:X.N.Nodup) (hi:X.N[i]?=some x) (hx:Loc X.env.scope x) (hf:X.fn x=true\/X.env.scope.names.lookup x=some .local:=by first|exact .inl rfl|exact .inr rfl|assumption):PG X (.Name x pos) (ZaB i):=by
 intro pins s σ H v u Q I r h
 exact wpAny_assign_Name (UO I hN hi hx r (fun s' I'=>⟨_,H,I',h⟩) hf)
noncomputable def ZmL:TGs:=fun vs σ H Q=>vs=[]/\Q σ H
noncomputable def Zle (t:TG) (u:TGs):TGs:=fun vs σ H Q=>∃v r,vs=v::r/\t v σ H fun σ' H'=>u r σ' H' Q
theorem Zjd:PGs X [] ZmL:=by
 intro pins s σ H vs us Q I r h
 obtain⟨e,h⟩:=h
 subst e
 cases r
 exact assignInOrder_nil ⟨σ,H,I,h⟩
theorem Zdd {e:Expr}{es:List Expr}{t:TG}{u:TGs} (h1:PG X e t) (h2:PGs X es u)
  (hs:(assignEach (e::es) X.env).map (·.2)=assign e X.env::(assignEach es X.env).map (·.2):=by rfl):PGs X (e::es) (Zle t u):=by
 intro pins s σ H vs us Q I r h
 obtain⟨v,vr,e1,h⟩:=h
 subst e1
 cases r with
 |cons r rr =>
  rw[hs]
  refine assignInOrder_cons (thn (h1 pins s σ H _ _ _ I r h) fun _ s1 ⟨σ1,H1,I1,q1⟩=>?_)
  exact h2 pins s1 σ1 H1 _ _ Q I1 rr q1
noncomputable def ZmK (K:W.Frag) (n:Nat) (t:TGs):TG:=fun v σ H Q=>∃a xs,v=.ref a/\SqT K H a xs/\xs.length=n/\t xs σ H Q
theorem Zk4 {es:List Expr}{k:Nat}{t:TGs}{n:Nat} (hc:X.calm=true) (h:PGs X es t)
  (hn:(assignEach es X.env).length=n:=by rfl) (hst:(assignEach es X.env).findIdx? (·.1)=none:=by rfl):PG X (.Tuple es k pos) (ZmK X.K n t):=by
 intro pins s σ H v u Q I r hw
 obtain⟨a,xs,e1,hq,hl,hw⟩:=hw
 subst e1
 cases r
 obtain⟨its,rv,ht,hz⟩:=I.tuple hq
 refine assign_Tuple_tuple (I.ok.hd hc) ht (by simp[hn,<- hl,rv.length]) hst fun h' hx=>?_
 have I1:Inv X pins σ H { s with heap:=h' }:=I.kept (t':=s.toks) fun b o e=>hx b o (ZtU (Heap.lt_size e)) e
 exact h pins _ σ H xs _ Q I1 (by simpa using rv) hw
noncomputable def Zml (to ti:TE) (t:Zl6):TG:=fun v σ H Q=>to σ H fun o H1=>ti σ H1 fun i H2=>t o i v H2 fun H3=>Q σ H3
theorem Qj {o i:Expr}{to ti:TE}{t:Zl6} (ho:PE X o to) (hi:PE X i ti) (hs:Zmx X t)
  (ha:∀v,assign (.Subscript o i pos) X.env v=(do
   let ov <- holding [v] (eval o X.env)
   let iv <- holding [v,ov] (eval i X.env)
   standAt pos
   holding [v,ov,iv] (setItem ov iv v)
   release [v,ov,iv] []):=by exact fun _=>rfl):PG X (.Subscript o i pos) (Zml to ti t):=by
 intro pins s σ H v u Q I r h
 rw[ha]
 refine wpAny_bind (wpAny_holding (thn (ho pins s σ H _ I h) fun ov s1 ⟨x,H1,I1,r1,q1⟩=>?_))
 refine wpAny_bind (wpAny_holding (thn (hi pins s1 σ H1 _ I1 q1) fun iv s2 ⟨y,H2,I2,r2,q2⟩=>?_))
 refine wpAny_bind (wpAny_standAt (wpAny_bind (wpAny_holding (thn (hs pins s2 σ H2 x y v ov iv u _ I2 r1 r2 r q2) fun _ s3 ⟨H3,I3,q3⟩=>?_))))
 exact wpAny_release ⟨σ,H3,I3,q3⟩
noncomputable def ZgO (te:TE) (g:TG):TS:=fun D σ H=>te σ H fun x H1=>g x σ H1 D.nx
theorem U8 {tg e:Expr}{te:TE}{g:TG} (he:PE X e te) (hg:PG X tg g) (hs:swapsWithSole [tg] e pos.line X.env=pure false:=by rfl) (hw:swappedStores [tg] e X.env=pure none:=by rfl)
  (h1:(assignEach [tg] X.env).map (·.2)=[assign tg X.env]:=by rfl):PS X (.Assign [tg] e pos) (ZgO te g):=by
 intro pins s σ H D I h
 refine wpAny_Assign_stores (thn (he pins s σ H _ I h) fun v s1 ⟨x,H1,I1,r1,q1⟩=>?_) hs hw
 rw[h1]
 exact thn (hg pins s1 σ H1 x v _ I1 r1 q1) fun _ s2 q=>q
theorem Z2 {i:Nat}{x:Str}{e:Expr}{te:TE}{pos':Pos} (hN:X.N.Nodup) (hi:X.N[i]?=some x) (hx:Loc X.env.scope x) (he:PE X e te) (hs:swapsWith e (some (.Name x pos')) pos.line X.env=pure false:=by rfl) (hf:X.fn x=true\/X.env.scope.names.lookup x=some .local:=by first|exact .inl rfl|exact .inr rfl|assumption) :
  PS X (.Assign [.Name x pos'] e pos) (ZgO te (ZaB i)):=by
 intro pins s σ H D I h
 refine wpAny_Assign_Name (thn (he pins s σ H _ I h) fun v s1 ⟨y,H1,I1,r1,q1⟩=>?_) hs
 exact UO I1 hN hi hx r1 (fun s2 I2=>⟨_,H1,I2,q1⟩) hf
noncomputable def Zkt (to ti te:TE) (tget:V->V->Hp->VK->Prop) (tip:TIp) (tset:Zl6):TS:=fun D σ H=>to σ H fun o H1=>ti σ H1 fun i H2=>tget o i H2 fun x H3=>te σ H3 fun y H4=>tip x y H4 fun z H5=>tset o i z H5 fun H6=>D.nx σ H6
def Zmy (X:Cx) (t:V->V->Hp->VK->Prop):Prop:=
 ∀(pins:List (Addr×Obj)) (s:Shared) (σ:St) (H:Hp) (o i:V) (ov iv:Value) (Q:VK),Inv X pins σ H s->Jt o ov->Jt i iv->t o i H Q ->
  wpAny (model X.prog X.w) X.A (getItem ov iv) (EP X pins σ Q) X.xe s
theorem ZiZ {o i e:Expr}{to ti te:TE}{tget:V->V->Hp->VK->Prop}{tip:TIp}{tset:Zl6}{op:Operator}{tpos:Pos} (ho:PE X o to) (hi:PE X i ti) (hg:Zmy X tget) (he:PE X e te) (hp:PIp X op tip) (hs:Zmx X tset)
  (ha:∀ov iv new,augStore i ov iv new=(do holding [new,ov,iv] (setItem ov iv new);release [new,ov,iv] [];pure .next):=by intros;rfl):PS X (.AugAssign (.Subscript o i tpos) op e pos) (Zkt to ti te tget tip tset):=by
 intro pins s σ H D I h
 refine wpAny_AugAssign_SubscriptAny (thn (ho pins s σ H _ I h) fun ov s1 ⟨x1,H1,I1,r1,q1⟩=>?_) ha
 refine thn (hi pins s1 σ H1 _ I1 q1) fun iv s2 ⟨x2,H2,I2,r2,q2⟩=>?_
 refine thn (hg pins s2 σ H2 x1 x2 ov iv _ I2 r1 r2 q2) fun old s3 ⟨x3,H3,I3,r3,q3⟩=>?_
 refine thn (he pins s3 σ H3 _ I3 q3) fun v s4 ⟨x4,H4,I4,r4,q4⟩=>?_
 refine thn (hp pins s4 σ H4 x3 x4 old v _ I4 r3 r4 q4) fun new s5 ⟨x5,H5,I5,r5,q5⟩=>?_
 exact thn (hs pins s5 σ H5 x1 x2 x5 ov iv new _ I5 r1 r2 r5 q5) fun _ s6 ⟨H6,I6,q6⟩=>⟨σ,H6,I6,q6⟩
noncomputable def ipI (f:Int->Int->Int):TIp:=fun x y H Q=>∃i j,x=.int i/\y=.int j/\Q (.int (f i j)) H
theorem ZkX:PIp X .Add (ipI fun i j=>i+j):=by
 intro pins s σ H x y v u Q I r1 r2 h
 obtain⟨i,j,e1,e2,q⟩:=h
 subst e1;subst e2
 obtain⟨t,rfl⟩:=r1
 obtain⟨t',rfl⟩:=r2
 exact iadd_int ⟨.int _,H,I.tok _,⟨_,rfl⟩,q⟩
noncomputable def ZhT (c:TT) (tb:TS):TS:=fun D σ H=>∃W:Nat->St->Hp->Prop,(∃m,W m σ H)/\∀m σ H,W m σ H ->
 c σ H fun b H1=>if b=true then ∃N:St->Hp->Prop,(∀σ' H',N σ' H'->∃m',m'<m/\W m' σ' H')/\tb { D with nx:=N,ct:=N,bk:=D.nx } σ H1 else D.nx σ H1
theorem Zdb {c:Expr}{body:List Stmt}{tc:TT}{tb:TS} (hp:PassesOwn (model X.prog X.w) X.A X.env X.xe) (hc:PT X c tc) (hb:PSs X body tb):PS X (.While c body [] pos) (ZhT tc tb):=by
 intro pins s σ H D I h
 obtain⟨W,⟨m0,w0⟩,turn⟩:=h
 refine wpAny_While (codeAny_whileLoop (fun n s'=>∃σ' H',Inv X pins σ' H' s'/\W n σ' H') ?_ m0 ⟨σ,H,I,w0⟩)
 rintro n s1 ⟨σ1,H1,I1,w1⟩
 refine wpAny_passesOwn hp (thn (hc pins s1 σ1 H1 _ I1 (turn n σ1 H1 w1)) fun b s2 ⟨H2,I2,q2⟩=>?_)
 cases b with
 |true =>
  obtain⟨N,hN,q2⟩:=q2
  rw[if_pos rfl]
  refine wpAny_passesOwn hp (thn (hb pins s2 σ1 H2 _ I2 q2) fun f s3 q3=>?_)
  cases f with
  |next =>
   obtain⟨σ3,H3,I3,n3⟩:=q3
   obtain⟨m',hm,w3⟩:=hN σ3 H3 n3
   exact⟨m',hm,σ3,H3,I3,w3⟩
  |cont =>
   obtain⟨σ3,H3,I3,n3⟩:=q3
   obtain⟨m',hm,w3⟩:=hN σ3 H3 n3
   exact⟨m',hm,σ3,H3,I3,w3⟩
  |brk=>exact q3
  |ret v=>exact q3
 |false =>
  rw[if_neg Bool.false_ne_true]
  exact wpAny_execs_nil ⟨σ1,H2,I2,q2⟩
end
structure It where
 go:Nat->Hp->Prop
 yld:Nat->Hp->V->Hp->Prop
 stop:Nat->Hp->Prop
def Ze1 (X:Cx) (pins:List (Addr×Obj)) (H:Hp) (b:Addr):Prop:=
 H b=none/\b≠X.env.locals/\b ∉ X.fs/\(b∈X.ex\/X.s₀.heap.objs.size<=b)/\(∀x c,X.env.cells.lookup x=some c->c≠b)/\∀p∈X.pn++pins,p.1≠b
theorem Inv.fpOk {X:Cx}{pins:List (Addr×Obj)}{σ:St}{H H':Hp}{s:Shared}{b:Addr} (I:Inv X pins σ H s) (hb:s.heap.objs.size<=b) (hn:H' b=none):Ze1 X pins H' b:=by
 refine⟨hn,ZuX (ZtM I.lt hb),I.nofs hb,.inr (ZtV I.sz hb),fun x c e z=>?_,fun p hp z=>?_⟩
 ·obtain⟨v,q⟩:=I.cell x c e
  exact absurd (ZtM q.lt (by rw[z];exact hb)) (Zun _)
 ·exact absurd (ZtM (Heap.lt_size (I.pin p hp).1) (by rw[z];exact hb)) (Zun _)
structure Zkd (P:Program) (w:World) (K:PySem.W.Frag) (tg:Expr) (J:It) (fp:List Addr) (it:Addr) (tn:Nat->Heap->Prop):Prop where
 mem:it∈fp
 obj:∀i h,tn i h->∀b∈fp,∃o,h.get? b=some o/\∀v,o.data≠.cell v
 keep:∀i h h',tn i h->(∀b∈fp,∀o,h.get? b=some o->h'.get? b=some o)->tn i h'
 item:∀(X:Cx),X.prog=P->X.w=w->X.K=K->X.calm=true->∀(i:Nat) (pins:List (Addr×Obj)) (s:Shared) (σ:St) (H:Hp) (E:Value->Shared->Prop),Inv X pins σ H s->(∀b∈fp,Ze1 X pins H b)->tn i s.heap->J.go i H ->
  wpAny (model P w) X.A (pyNext (.ref it)) (fun r s1=>∃u,r=some u /\
   wpAny (model P w) X.A (letOwnedTupleGo tg (.ref it) u) (fun _ s2=>∃x H',Inv X pins σ H' s2/\Jt x u/\J.yld i H x H'/\tn (i+1) s2.heap/\∀b∈fp,H' b=none) E s1) E s
 done:∀(X:Cx),X.prog=P->X.w=w->X.K=K->X.calm=true->∀(i:Nat) (pins:List (Addr×Obj)) (s:Shared) (σ:St) (H:Hp) (E:Value->Shared->Prop),Inv X pins σ H s->(∀b∈fp,Ze1 X pins H b)->tn i s.heap->J.stop i H ->
  wpAny (model P w) X.A (pyNext (.ref it)) (fun r s1=>r=none/\Inv X pins σ H s1) E s
 self:∀(A:Around) (i:Nat) (s:Shared) (Q:Value->Shared->Prop) (E:Value->Shared->Prop),tn i s.heap->Q (.ref it) s->wpAny (model P w) A (pyIter (.ref it)) Q E s
noncomputable abbrev TI:=St->Hp->(It->Hp->Prop)->Prop
def PIE (X:Cx) (pins:List (Addr×Obj)) (σ:St) (tg:Expr) (R:It->Hp->Prop) (itv:Value) (s2:Shared):Prop:=
 ∃(it:Addr) (fp:List Addr) (tn:Nat->Heap->Prop) (J:It) (H':Hp),itv=.ref it/\Inv X pins σ H' s2/\Zkd X.prog X.w X.K tg J fp it tn/\tn 0 s2.heap/\(∀b∈fp,Ze1 X pins H' b)/\R J H'
def PI (X:Cx) (tg iter:Expr) (wi:TI):Prop:=
 ∀(pins:List (Addr×Obj)) (s:Shared) (σ:St) (H:Hp) (R:It->Hp->Prop),Inv X pins σ H s->wi σ H R ->
  wpAny (model X.prog X.w) X.A (eval iter X.env) (fun v s1=>wpAny (model X.prog X.w) X.A (pyIter v) (PIE X pins σ tg R) X.xe s1) X.xe s
theorem Zj3 {M:Model}{A:Around}{E:Value->Shared->Prop}{s:Shared}{tg:Expr}{it:Addr}{u:Value}{o:Obj}{n:String}{vs:Array Value}{Q:Unit->Shared->Prop} (ho:s.heap.get? it=some o) (hc:o.cls=.type n) (hd:o.data=.fields vs)
  (hn:["enumerate", "zip", "dict_itemiterator", "dict_reverseitemiterator", "odict_iterator", "itertools.zip_longest", "itertools.pairwise"].contains n=false) (hQ:Q () s):wpAny M A (letOwnedTupleGo tg (.ref it) u) Q E s:=by
 unfold letOwnedTupleGo
 cases tg<;>first
  |exact wpAny_pure hQ
  |(cases u<;>first
    |exact wpAny_pure hQ
    |(refine wpAny_bind (wpAny_load ho ?_)
      rw[hc,hd]
      show wpAny M A (if (["enumerate", "zip", "dict_itemiterator", "dict_reverseitemiterator", "odict_iterator", "itertools.zip_longest", "itertools.pairwise"].contains n&&vs[0]?==some (rawInt _))=true then _ else _) Q E s
      rw[if_neg (by intro h;rw[hn,Bool.false_and] at h;cases h)]
      exact wpAny_pure hQ))
noncomputable def Itl (K:W.Frag) (a:Addr):It:=
 ⟨fun i H=>∃xs x,SqL K H a xs/\xs[i]?=some x,fun i H x H'=>H'=H/\∀xs,SqL K H a xs->xs[i]?=some x,fun i H=>∃xs,SqL K H a xs/\xs.length<=i⟩
noncomputable def Itt (K:W.Frag) (a:Addr):It:=
 ⟨fun i H=>∃xs x,SqT K H a xs/\xs[i]?=some x,fun i H x H'=>H'=H/\∀xs,SqT K H a xs->xs[i]?=some x,fun i H=>∃xs,SqT K H a xs/\xs.length<=i⟩
noncomputable def Itr (lo:Int) (n:Nat):It:=⟨fun i _=>i<n,fun i H x H'=>H'=H/\x=.int (lo+i),fun i _=>n<=i⟩
theorem Ze8 {P:Program}{w:World}{K:W.Frag}{tg:Expr} (a it:Addr):Zkd P w K tg (Itl K a) [it] it (fun i h=>h.IsListIter it a i) where
 mem:=by simp
 obj:=fun i h st b hb=>by
  have e:b=it:=by simpa using hb
  subst e
  obtain⟨o,e,c,d⟩:=st
  exact⟨o,e,fun v z=>by rw[d] at z;cases z⟩
 keep:=fun i h h' st k=>st.at fun o e=>k it (by simp) o e
 item:=by
  intro X hP hw hK hc i pins s σ H E I hf st hg
  subst hP hw hK
  obtain⟨xs,x,hq,hx⟩:=hg
  obtain⟨its,rv,p,hz⟩:=I.list hq
  obtain⟨u,hu,ru⟩:=rv.get hx
  obtain⟨f0,f1,f2,f3,f4,f5⟩:=hf it (by simp)
  refine wpAny_pyNext_list_item st p.isList (x:=u) (by simpa using hu) fun h' st' sb=>?_
  have I1:Inv X pins σ H { s with heap:=h' }:=I.turned (t':=s.toks) (fun b o hb e=>(sb.2 b hb).trans e) f0 f1 f3 f4 f5
  obtain⟨o,e,c,d⟩:=id st'
  exact⟨u,rfl,Zj3 (s:={ s with heap:=h' }) e c d (by decide) ⟨x,H,I1,ru,⟨rfl,fun ys hy=>by rw[I.list_inj hy hq];exact hx⟩,st',fun b hb=>(hf b hb).1⟩⟩
 done:=by
  intro X hP hw hK hc i pins s σ H E I hf st hg
  subst hP hw hK
  obtain⟨xs,hq,hx⟩:=hg
  obtain⟨its,rv,p,hz⟩:=I.list hq
  obtain⟨f0,f1,f2,f3,f4,f5⟩:=hf it (by simp)
  have hl:=rv.length
  exact wpAny_pyNext_list_end (I.ok.hd hc) st p.isList (by simp;omega) fun h' eb=>⟨rfl,I.turned (t':=s.toks) (fun b o hb e=>eb b o hb e) f0 f1 f3 f4 f5⟩
 self:=fun _ _ _ _ _ st h=>wpAny_pyIter_listiter st h
theorem ZdM {P:Program}{w:World}{K:W.Frag}{tg:Expr} (a it:Addr):Zkd P w K tg (Itt K a) [it] it (fun i h=>h.IsTupleIter it a i) where
 mem:=by simp
 obj:=fun i h st b hb=>by
  have e:b=it:=by simpa using hb
  subst e
  obtain⟨o,e,c,d⟩:=st
  exact⟨o,e,fun v z=>by rw[d] at z;cases z⟩
 keep:=fun i h h' st k=>st.at fun o e=>k it (by simp) o e
 item:=by
  intro X hP hw hK hc i pins s σ H E I hf st hg
  subst hP hw hK
  obtain⟨xs,x,hq,hx⟩:=hg
  obtain⟨its,rv,p,hz⟩:=I.tuple hq
  obtain⟨u,hu,ru⟩:=rv.get hx
  obtain⟨f0,f1,f2,f3,f4,f5⟩:=hf it (by simp)
  refine wpAny_pyNext_tuple_item st (show s.heap.IsTuple a its.toArray from p) (x:=u) (by simpa using hu) fun h' st' sb=>?_
  have I1:Inv X pins σ H { s with heap:=h' }:=I.turned (t':=s.toks) (fun b o hb e=>(sb.2 b hb).trans e) f0 f1 f3 f4 f5
  obtain⟨o,e,c,d⟩:=id st'
  exact⟨u,rfl,Zj3 (s:={ s with heap:=h' }) e c d (by decide) ⟨x,H,I1,ru,⟨rfl,fun ys hy=>by rw[I.tuple_inj hy hq];exact hx⟩,st',fun b hb=>(hf b hb).1⟩⟩
 done:=by
  intro X hP hw hK hc i pins s σ H E I hf st hg
  subst hP hw hK
  obtain⟨xs,hq,hx⟩:=hg
  obtain⟨its,rv,p,hz⟩:=I.tuple hq
  obtain⟨f0,f1,f2,f3,f4,f5⟩:=hf it (by simp)
  have hl:=rv.length
  exact wpAny_pyNext_tuple_end (I.ok.hd hc) st (show s.heap.IsTuple a its.toArray from p) (by simp;omega) fun h' eb=>⟨rfl,I.turned (t':=s.toks) (fun b o hb e=>eb b o hb e) f0 f1 f3 f4 f5⟩
 self:=fun _ _ _ _ _ st h=>wpAny_pyIter_tupleiter st h
theorem ZdN {P:Program}{w:World}{K:W.Frag}{tg:Expr} (it:Addr) (lo:Int) (n:Nat):Zkd P w K tg (Itr lo n) [it] it (fun i h=>IsRangeIter h it (lo+(i:Nat)*1) ((n:Int)-(i:Nat)) 1) where
 mem:=by simp
 obj:=fun i h st b hb=>by
  have e:b=it:=by simpa using hb
  subst e
  exact⟨_,st,fun v z=>by
   have z':Data.fields _=Data.cell v:=z
   cases z'⟩
 keep:=fun i h h' st k=>k it (by simp) _ st
 item:=by
  intro X hP hw hK hc i pins s σ H E I hf st hg
  subst hP hw hK
  obtain⟨f0,f1,f2,f3,f4,f5⟩:=hf it (by simp)
  have W:=Walks.range (prog:=X.prog) (w:=X.w) (I.ok.hd hc) it lo 1 n
  refine W.item i s _ _ hg st fun v h' tk hv st' kk=>?_
  obtain⟨t,rfl⟩:=hv
  have I1:Inv X pins σ H { s with heap:=h',toks:=tk }:=I.turned (fun b o hb e=>kk b o (by simpa using hb) e) f0 f1 f3 f4 f5
  refine⟨_,rfl,Zj3 (s:={ s with heap:=h',toks:=tk }) (n := "range_iterator") st' rfl rfl (by decide) ⟨.int (lo+i),H,I1,⟨t, ?_⟩,⟨rfl,rfl⟩,st',fun b hb=>(hf b hb).1⟩⟩
  rw[Int.mul_one]
 done:=by
  intro X hP hw hK hc i pins s σ H E I hf st hg
  subst hP hw hK
  obtain⟨f0,f1,f2,f3,f4,f5⟩:=hf it (by simp)
  exact wpAny_pyNext_range_end (I.ok.hd hc) st (by have:n<=i:=hg;omega) fun h' eb=>⟨rfl,I.turned (t':=s.toks) (fun b o hb e=>eb b o hb e) f0 f1 f3 f4 f5⟩
 self:=fun _ _ _ _ _ st h=>wpAny_pyIter_rangeiter st h
section
variable {X:Cx}{tg:Expr}
noncomputable def Zj1 (K:W.Frag) (tl:TE):TI:=fun σ H R=>tl σ H fun x H1=>∃a,x=.ref a/\(∃xs,SqL K H1 a xs)/\R (Itl K a) H1
noncomputable def Zmk (K:W.Frag) (tl:TE):TI:=fun σ H R=>tl σ H fun x H1=>∃a,x=.ref a/\(∃xs,SqT K H1 a xs)/\R (Itt K a) H1
theorem Zjc {l:Expr}{tl:TE} (hl:PE X l tl):PI X tg l (Zj1 X.K tl):=by
 intro pins s σ H R I h
 refine thn (hl pins s σ H _ I h) fun v s1 ⟨x,H1,I1,r1,q1⟩=>?_
 obtain⟨a,e,⟨xs,hq⟩,q⟩:=q1
 subst e
 cases r1
 obtain⟨its,rv,p,hz⟩:=I1.list hq
 refine wpAny_pyIter_list p.isList ?_
 refine⟨s1.heap.objs.size,[s1.heap.objs.size],_,_,H1,rfl,I1.kept (t':=s1.toks) fun b o e=>Heap.get?_push_of_some _ e,Ze8 a _,⟨_,Heap.get?_push_size _ rfl,rfl,rfl⟩,fun b hb=>?_,q⟩
 have e:b=s1.heap.objs.size:=by simpa using hb
 subst e
 exact I1.fpOk (ZtE _) (I1.hok.fresh (ZtE _))
theorem Zk3 {l:Expr}{tl:TE} (hl:PE X l tl):PI X tg l (Zmk X.K tl):=by
 intro pins s σ H R I h
 refine thn (hl pins s σ H _ I h) fun v s1 ⟨x,H1,I1,r1,q1⟩=>?_
 obtain⟨a,e,⟨xs,hq⟩,q⟩:=q1
 subst e
 cases r1
 obtain⟨its,rv,p,hz⟩:=I1.tuple hq
 refine wpAny_pyIter_tuple (show s1.heap.IsTuple a its.toArray from p) ?_
 refine⟨s1.heap.objs.size,[s1.heap.objs.size],_,_,H1,rfl,I1.kept (t':=s1.toks) fun b o e=>Heap.get?_push_of_some _ e,ZdM a _,⟨_,Heap.get?_push_size _ rfl,rfl,rfl⟩,fun b hb=>?_,q⟩
 have e:b=s1.heap.objs.size:=by simpa using hb
 subst e
 exact I1.fpOk (ZtE _) (I1.hok.fresh (ZtE _))
theorem ZcY {pins:List (Addr×Obj)}{σ:St}{H:Hp}{s:Shared}{R:It->Hp->Prop}{E:Value->Shared->Prop}{lo hi:Int}{t u v:Tok}{tk:Nat} (I:Inv X pins σ H s) (h1:-(2^62)<=lo) (h2:lo<2^62) (h3:-(2^62)<=hi) (h4:hi<2^62)
  (q:R (Itr lo (hi-lo).toNat) H):wpAny (model X.prog X.w) X.A (pyIter (.ref s.heap.objs.size)) (PIE X pins σ tg R) E { s with heap:=s.heap.push { cls:=.type "range",data:=.fields #[.int lo t,.int hi u,.int 1 v] },toks:=tk }:=by
 refine wpAny_pyIter_range (IsRange.new ..) (small_one h1 h2 h3 h4) ?_
 have I1:Inv X pins σ H { s with heap:=s.heap.push { cls:=.type "range",data:=.fields #[.int lo t,.int hi u,.int 1 v] },toks:=tk }:=I.kept fun b o e=>Heap.get?_push_of_some _ e
 refine⟨(s.heap.push { cls:=.type "range",data:=.fields #[.int lo t,.int hi u,.int 1 v] }).objs.size,[(s.heap.push { cls:=.type "range",data:=.fields #[.int lo t,.int hi u,.int 1 v] }).objs.size],_,_,H,rfl,
  I1.kept (t':=tk) fun b o e=>Heap.get?_push_of_some _ e,ZdN _ lo (hi-lo).toNat, ?_,fun b hb=>?_,q⟩
 ·have e1:lo+((0:Nat):Int)*1=lo:=by simp
  have e2:(((hi-lo).toNat:Nat):Int)-((0:Nat):Int)=Builtin.Range.rangeSize lo hi 1:=by rw[rangeSize_one];split<;>omega
  show IsRangeIter _ _ (lo+((0:Nat):Int)*1) ((((hi-lo).toNat:Nat):Int)-((0:Nat):Int)) 1
  rw[e1,e2]
  exact Heap.get?_push_size _ rfl
 ·have e:b=(s.heap.push { cls:=.type "range",data:=.fields #[.int lo t,.int hi u,.int 1 v] }).objs.size:=by simpa using hb
  subst e
  exact I1.fpOk (ZtE _) (I1.hok.fresh (ZtE _))
noncomputable def ZkZ (ta:TA):TI:=fun σ H R=>ta σ H fun vs H1=>∃j:Int,vs=[.int j]/\-(2^62)<=j/\j<2^62/\R (Itr 0 j.toNat) H1
noncomputable def ZkY (ta:TA):TI:=fun σ H R=>ta σ H fun vs H1=>∃i j:Int,vs=[.int i,.int j]/\(-(2^62)<=i/\i<2^62/\-(2^62)<=j/\j<2^62)/\R (Itr i (j-i).toNat) H1
theorem Jf {a:Expr}{ta:TA}{p pos:Pos} (hg:Gl X "range") (hm:X.mg "range"=none) (ha:PA X [a] ta) (hs:starEach [a] X.env=[(false,eval a X.env)]:=by rfl):PI X tg (.Call (.Name "range" p) [a] [] pos) (ZkZ ta):=by
 intro pins s σ H R I h
 refine Call_ (Zbu I hg hm boot_range (PyProof.Rows.callWith_type1 (thn (ha pos pins s σ H _ I h) fun us s1 ⟨vs,H1,I1,r1,q1⟩=>?_) hs rfl))
 obtain⟨j,e,q1,q2,q⟩:=q1
 subst e
 cases r1 with
 |cons r rr =>
  cases rr
  obtain⟨t,rfl⟩:=r
  exact call_range_1 (ZcY I1 (by omega) (by omega) q1 q2 (by simpa using q))
theorem Qi {a b:Expr}{ta:TA}{p pos:Pos} (hg:Gl X "range") (hm:X.mg "range"=none) (ha:PA X [a,b] ta) (hs:starEach [a,b] X.env=[(false,eval a X.env),(false,eval b X.env)]:=by rfl) (hs2:starEach [b] X.env=[(false,eval b X.env)]:=by rfl) :
  PI X tg (.Call (.Name "range" p) [a,b] [] pos) (ZkY ta):=by
 intro pins s σ H R I h
 refine Call_ (Zbu I hg hm boot_range (PyProof.Rows.callWith_type1 (thn (ha pos pins s σ H _ I h) fun us s1 ⟨vs,H1,I1,r1,q1⟩=>?_) (by rw[hs,hs2]) (by rw[hs2];rfl)))
 obtain⟨i,j,e,⟨q1,q2,q3,q4⟩,q⟩:=q1
 subst e
 cases r1 with
 |cons r rr =>
  cases rr with
  |cons r' rr =>
   cases rr
   obtain⟨t,rfl⟩:=r
   obtain⟨t',rfl⟩:=r'
   exact call_range_2 (ZcY I1 q1 q2 q3 q4 q)
noncomputable def Zm5 (wi:TI) (g:TG) (tb:TS):TS:=fun D σ H=>wi σ H fun J H1=>∃W:Nat->Nat->St->Hp->Prop,(∃m,W 0 m σ H1)/\∀i m σ H,W i m σ H ->
 (J.stop i H/\D.nx σ H)\/(J.go i H/\∃N:St->Hp->Prop,(∀σ' H',N σ' H'->∃m',m'<m/\W (i+1) m' σ' H')/\∀x H',J.yld i H x H'->g x σ H' fun σ2 H2=>tb { D with nx:=N,ct:=N,bk:=D.nx } σ2 H2)
noncomputable def Zdc (fp:List Addr) (h:Heap):List (Addr×Obj):=fp.filterMap fun b=>(h.get? b).map fun o=>(b,o)
theorem Ju {fp:List Addr}{h:Heap}{b:Addr}{o:Obj} (hb:b∈fp) (e:h.get? b=some o):(b,o)∈Zdc fp h:=Zv1.mpr ⟨b,hb,by rw[e];rfl⟩
theorem Zfy {fp:List Addr}{h:Heap}{p:Addr×Obj} (hp:p∈Zdc fp h):p.1∈fp/\h.get? p.1=some p.2:=by
 obtain⟨b,hb,e⟩:=Zv1.mp hp
 cases q:h.get? b with
 |none=>rw[q] at e;cases e
 |some o =>
  rw[q] at e
  have e':(b,o)=p:=Option.some.inj e
  subst e'
  exact⟨hb,q⟩
theorem Inv.pinned {pins:List (Addr×Obj)}{σ:St}{H:Hp}{s:Shared}{fp:List Addr} (I:Inv X pins σ H s) (hf:∀b∈fp,Ze1 X pins H b) (ho:∀b∈fp,∃o,s.heap.get? b=some o/\∀v,o.data≠.cell v):Inv X (pins++Zdc fp s.heap) σ H s:=
 I.pins_of fun p hp=>(ZtD.mp hp).elim (fun z=>I.pin p (ZtB _ z)) fun z=>by
  obtain⟨hb,e⟩:=Zfy z
  obtain⟨f0,f1,f2,_⟩:=hf p.1 hb
  obtain⟨o,e',d⟩:=ho p.1 hb
  rw[e] at e';cases e'
  exact⟨e,f0,f1,f2,d⟩
theorem Inv.unpinned {pins pl:List (Addr×Obj)}{σ:St}{H:Hp}{s:Shared} (I:Inv X (pins++pl) σ H s):Inv X pins σ H s:=I.pins_of fun p hp=>I.pin p (ZtB _ (ZtF _ hp))
theorem J5 {iter:Expr}{body:List Stmt}{wi:TI}{g:TG}{tb:TS}{pos:Pos} (hp:PassesOwn (model X.prog X.w) X.A X.env X.xe) (hc:X.calm=true) (hi:PI X tg iter wi) (hg:PG X tg g) (hb:PSs X body tb)
  (hs:∀x,foldedSetIterable iter X.env x=pure x:=by exact fun _=>rfl):PS X (.For tg iter body [] pos) (Zm5 wi g tb):=by
 intro pins s σ H D I h
 refine wpAny_For (thn (hi pins s σ H _ I h) fun v s1 h1=>thn h1 fun itv s2 h2=>?_) hs
 obtain⟨it,fp,tn,J,H2,e,I2,T,st2,f2,W,⟨m0,w0⟩,turn⟩:=h2
 subst e
 have stat:∀{H':Hp},(∀b∈fp,H' b=none)->∀b∈fp,Ze1 X pins H' b:=fun hn b hb=>⟨hn b hb,(f2 b hb).2⟩
 refine codeAny_forLoop_any (fun n s'=>∃i σ' H',Inv X pins σ' H' s'/\tn i s'.heap/\(∀b∈fp,H' b=none)/\W i n σ' H') ?_ m0 ⟨0,σ,H2,I2,st2,fun b hb=>(f2 b hb).1,w0⟩
 rintro n s3 ⟨i,σ3,H3,I3,st3,fr3,w3⟩
 rcases turn i n σ3 H3 w3 with ⟨stop,qn⟩|⟨go,N,hN,step⟩
 ·refine wpAny_passesOwn hp (thn (T.done X rfl rfl rfl hc i pins s3 σ3 H3 X.xe I3 (stat fr3) st3 stop) fun r s4 ⟨hr,I4⟩=>?_)
  subst hr
  exact wpAny_execs_nil ⟨σ3,H3,I4,qn⟩
 ·refine wpAny_passesOwn hp (thn (T.item X rfl rfl rfl hc i pins s3 σ3 H3 X.xe I3 (stat fr3) st3 go) fun r s4 ⟨u,hr,h4⟩=>?_)
  subst hr
  refine wpAny_passesOwn hp (thn h4 fun _ s5 ⟨x,H5,I5,r5,y5,st5,fr5⟩=>?_)
  have I5':=I5.pinned (stat fr5) (T.obj _ _ st5)
  refine wpAny_passesOwn hp (thn (hg _ s5 σ3 H5 x u _ I5' r5 (step x H5 y5)) fun _ s6 ⟨σ6,H6,I6,q6⟩=>?_)
  refine wpAny_passesOwn hp (thn (hb _ s6 σ6 H6 _ I6 q6) fun f s7 q7=>?_)
  have again:∀{σ7:St}{H7:Hp},Inv X (pins++Zdc fp s5.heap) σ7 H7 s7->N σ7 H7->∃m,m<n/\∃i σ' H',Inv X pins σ' H' s7/\tn i s7.heap/\(∀b∈fp,H' b=none)/\W i m σ' H':=fun {σ7 H7} I7 n7=>by
   obtain⟨m',hm,w7⟩:=hN σ7 H7 n7
   refine⟨m',hm,i+1,σ7,H7,I7.unpinned,T.keep _ _ _ st5 fun b hb o e=>(I7.pin (b,o) (ZtB _ (ZtB _ (Ju hb e)))).1,fun b hb=>?_,w7⟩
   obtain⟨o,e,d⟩:=T.obj _ _ st5 b hb
   exact(I7.pin (b,o) (ZtB _ (ZtB _ (Ju hb e)))).2.1
  cases f with
  |next=>obtain⟨σ7,H7,I7,n7⟩:=q7;exact again I7 n7
  |cont=>obtain⟨σ7,H7,I7,n7⟩:=q7;exact again I7 n7
  |brk=>obtain⟨σ7,H7,I7,q7⟩:=q7;exact⟨σ7,H7,I7.unpinned,q7⟩
  |ret v=>obtain⟨x7,σ7,H7,I7,r7,q7⟩:=q7;exact⟨x7,σ7,H7,I7.unpinned,r7,q7⟩
end
noncomputable abbrev R2:=V->V->Hp->VK->Prop
def OpR (X:Cx) (f:Value->Value->Sem Value) (r:R2):Prop:=
 ∀(pins:List (Addr×Obj)) (s:Shared) (σ:St) (H:Hp) (x y:V) (v u:Value) (Q:VK),Inv X pins σ H s->Jt x v->Jt y u->r x y H Q ->
  wpAny (model X.prog X.w) X.A (f v u) (EP X pins σ Q) X.xe s
def JX (X:Cx) (f:Value) (r:List V->Hp->VK->Prop):Prop:=
 ∀(pins:List (Addr×Obj)) (s:Shared) (σ:St) (H:Hp) (xs:List V) (us:List Value) (Q:VK),Inv X pins σ H s->Jb xs us->r xs H Q ->
  wpAny (model X.prog X.w) X.A (call f us) (EP X pins σ Q) X.xe s
def Znh (X:Cx) (r:V->Hp->(Bool->Hp->Prop)->Prop):Prop:=
 ∀(pins:List (Addr×Obj)) (s:Shared) (σ:St) (H:Hp) (x:V) (v:Value) (Q:Bool->Hp->Prop),Inv X pins σ H s->Jt x v->r x H Q ->
  wpAny (model X.prog X.w) X.A (truthy v) (TP X pins σ Q) X.xe s
noncomputable def tOp (r:R2) (ta tb:TE):TE:=fun σ H Q=>ta σ H fun x H1=>tb σ H1 fun y H2=>r x y H2 Q
noncomputable def rI (C:Int->Int->Prop) (g:Int->Int->V):R2:=fun x y H Q=>∃i j,x=.int i/\y=.int j/\C i j/\Q (g i j) H
noncomputable def rI0 (g:Int->Int->V):R2:=fun x y H Q=>∃i j,x=.int i/\y=.int j/\Q (g i j) H
section
variable {X:Cx}{a b:Expr}{ta tb:TE}{pos:Pos}
theorem Zmt (ha:PE X a ta) (hb:PE X b tb) {pins:List (Addr×Obj)}{s:Shared}{σ:St}{H:Hp}{R:V->V->Hp->Prop} (I:Inv X pins σ H s)
  (h:ta σ H fun x H1=>tb σ H1 fun y H2=>R x y H2) {Q:Value->Shared->Prop}{f:Value->Value->Sem Value}
  (hf:∀v u s2 x y H2,Inv X pins σ H2 s2->Jt x v->Jt y u->R x y H2->wpAny (model X.prog X.w) X.A (f v u) Q X.xe s2) :
  wpAny (model X.prog X.w) X.A (eval a X.env) (fun v s₁=>wpAny (model X.prog X.w) X.A (eval b X.env) (fun u s₂=>wpAny (model X.prog X.w) X.A (f v u) Q X.xe s₂) X.xe s₁) X.xe s:=by
 refine thn (ha pins s σ H _ I h) fun v s1 ⟨x,H1,I1,r1,q1⟩=>?_
 refine thn (hb pins s1 σ H1 _ I1 q1) fun u s2 ⟨y,H2,I2,r2,q2⟩=>?_
 exact hf v u s2 x y H2 I2 r1 r2 q2
theorem Z6 {op:Operator}{r:R2} (ho:OpR X (binaryOp op) r) (ha:PE X a ta) (hb:PE X b tb):PE X (.BinOp a op b pos) (tOp r ta tb):=by
 intro pins s σ H Q I h
 exact wpAny_BinOp (Zmt ha hb I h fun v u s2 x y H2 I2 rx ry q=>ho pins s2 σ H2 x y v u Q I2 rx ry q)
theorem opI {f:Value->Value->Sem Value}{C:Int->Int->Prop}{g:Int->Int->Int}
  (rule:∀(i j:Int) (t u:Tok) (s:Shared) (Q:Value->Shared->Prop) (E:Value->Shared->Prop),C i j->Q (.int (g i j) s.toks) { s with toks:=s.toks+1 }->wpAny (model X.prog X.w) X.A (f (.int i t) (.int j u)) Q E s) :
  OpR X f (rI C fun i j=>.int (g i j)):=by
 intro pins s σ H x y v u Q I rx ry h
 obtain⟨i,j,rfl,rfl,hc,q⟩:=h
 obtain⟨t,rfl⟩:=rx
 obtain⟨t',rfl⟩:=ry
 exact rule i j t t' s _ _ hc ⟨.int (g i j),H,I.tok _,⟨_,rfl⟩,q⟩
theorem ZmG {f:Value->Value->Sem Value}{g:Int->Int->Int}
  (rule:∀(i j:Int) (t u:Tok) (s:Shared) (Q:Value->Shared->Prop) (E:Value->Shared->Prop),Q (.int (g i j) s.toks) { s with toks:=s.toks+1 }->wpAny (model X.prog X.w) X.A (f (.int i t) (.int j u)) Q E s) :
  OpR X f (rI0 fun i j=>.int (g i j)):=by
 intro pins s σ H x y v u Q I rx ry h
 obtain⟨i,j,rfl,rfl,q⟩:=h
 obtain⟨t,rfl⟩:=rx
 obtain⟨t',rfl⟩:=ry
 exact rule i j t t' s _ _ ⟨.int (g i j),H,I.tok _,⟨_,rfl⟩,q⟩
theorem ZlG {f:Value->Value->Sem Value}{g:Int->Int->Bool}
  (rule:∀(i j:Int) (t u:Tok) (s:Shared) (Q:Value->Shared->Prop) (E:Value->Shared->Prop),Q (.bool (g i j)) s->wpAny (model X.prog X.w) X.A (f (.int i t) (.int j u)) Q E s) :
  OpR X f (rI0 fun i j=>.bl (g i j)):=by
 intro pins s σ H x y v u Q I rx ry h
 obtain⟨i,j,rfl,rfl,q⟩:=h
 obtain⟨t,rfl⟩:=rx
 obtain⟨t',rfl⟩:=ry
 exact rule i j t t' s _ _ ⟨.bl (g i j),H,I,rfl,q⟩
def Zke (i j:Int):Prop:=0<=j/\j<=1000000/\i.natAbs<2^64
theorem ZdL (k:Nat):(0:Int)<=2^k:=by
 rw[two_pow_cast]
 exact Int.natCast_nonneg _
theorem J6:OpR X (binaryOp .Add) (rI0 fun i j=>.int (i+j)):=ZmG fun _ _ _ _ _ _ _ q=>add_int q
theorem Zft:OpR X (binaryOp .Sub) (rI0 fun i j=>.int (i-j)):=ZmG fun _ _ _ _ _ _ _ q=>sub_int q
theorem ZS:OpR X (binaryOp .Mod) (rI (fun _ j=>0<j) fun i j=>.int (i%j)):=opI fun i j _ _ _ _ _ hc q=>by
 have h1:(0:Int)<j:=hc
 exact mod_int' (by omega) (by rw[Int.fmod_eq_emod_of_nonneg i (by omega)];exact q)
theorem Zbp:OpR X (binaryOp .Pow) (rI Zke fun i j=>.int (i^j.toNat)):=opI fun _ _ _ _ _ _ _ hc q=>pow_int_small hc.1 hc.2.1 hc.2.2 q
theorem ZkI:OpR X (binaryOp .RShift) (rI (fun _ j=>0<=j) fun i j=>.int (i/2^j.toNat)):=opI fun i j _ _ _ _ _ hc q =>
 rshift_int hc (by rw[Int.fdiv_eq_ediv_of_nonneg i (ZdL _)];exact q)
variable {c:Expr}{tc:TE}
theorem Zli {pins:List (Addr×Obj)}{σ:St}{H:Hp}{s:Shared}{Q:VK}{k k':Bool} (I:Inv X pins σ H s) (q:Q (.bl k) H) (e:k=k'):EP X pins σ Q (.bool k') s:=by
 subst e
 exact⟨.bl k,H,I,rfl,q⟩
theorem Zay:OpR X (compareOp .Lt) (rI0 fun i j=>.bl (decide (i<j))):=ZlG fun _ _ _ _ _ _ _ q=>lt_int q
theorem ZkK:OpR X (compareOp .LtE) (rI0 fun i j=>.bl (decide (i<=j))):=ZlG fun _ _ _ _ _ _ _ q=>le_int q
theorem Zfu:OpR X (compareOp .Gt) (rI0 fun i j=>.bl (decide (j<i))):=ZlG fun _ _ _ _ _ _ _ q=>gt_int q
theorem Zmg:OpR X (compareOp .GtE) (rI0 fun i j=>.bl (decide (j<=i))):=ZlG fun _ _ _ _ _ _ _ q=>ge_int q
theorem Zjk:OpR X (compareOp .IsNot) (fun x y H Q=>y=.non/\Q (.bl (!decide (x=.non))) H):=by
 intro pins s σ H x y v u Q I rx ry h
 obtain⟨rfl,q⟩:=h
 cases ry
 refine isnot_none_gen (Zli I q ?_)
 cases x<;>first
  |(cases rx;rfl)
  |(obtain⟨t,rfl⟩:=rx;rfl)
theorem Z9 (b:Expr) {op:CmpOp} (h:op≠.In:=by decide) (h2:op≠.NotIn:=by decide):behindInMarks op b=false:=by
 have e1:(op==CmpOp.In)=false:=by cases op<;>first|rfl|exact absurd rfl h
 have e2:(op==CmpOp.NotIn)=false:=by cases op<;>first|rfl|exact absurd rfl h2
 cases b<;>simp[behindInMarks,e1,e2]
theorem JV {op:CmpOp}{r:R2} (ho:OpR X (compareOp op) r) (ha:PE X a ta) (hb:PE X b tb) (hm:behindInMarks op b=false):PE X (.Compare a [op] [b] pos) (tOp r ta tb):=by
 intro pins s σ H Q I h
 exact wpAny_Compare1 (Zmt ha hb I h fun v u s2 x y H2 I2 rx ry q=>ho pins s2 σ H2 x y v u Q I2 rx ry q) hm
noncomputable def ZiJ (t:TE):TT:=fun σ H Q=>t σ H fun x H'=>∃k,x=.bl k/\Q k H'
theorem Zy {op:CmpOp}{r:R2} (ho:OpR X (compareOp op) r) (ha:PE X a ta) (hb:PE X b tb) (hm:behindInMarks op b=false):PT X (.Compare a [op] [b] pos) (ZiJ (tOp r ta tb)):=by
 intro pins s σ H Q I h
 refine wpAny_isTrue_Compare1 (thn (ha pins s σ H _ I h) fun v s1 ⟨x,H1,I1,r1,q1⟩=>thn (hb pins s1 σ H1 _ I1 q1) fun u s2 ⟨y,H2,I2,r2,q2⟩ =>
  thn (ho pins s2 σ H2 x y v u _ I2 r1 r2 q2) fun c s3 ⟨z,H3,I3,r3,k,e,q3⟩=>?_) hm
 subst e
 cases r3
 exact wpAny_truthy_bool ⟨H3,I3,q3⟩
noncomputable def ZhX (r r':R2) (ta tb tc:TE):TE:=fun σ H Q=>ta σ H fun x H1=>tb σ H1 fun y H2=>r x y H2 fun z H3=>∃k,z=.bl k /\
 (if k=true then tc σ H3 fun w' H4=>r' y w' H4 Q else Q (.bl false) H3)
theorem Zha {op op':CmpOp}{r r':R2} (ho:OpR X (compareOp op) r) (ho':OpR X (compareOp op') r') (ha:PE X a ta) (hb:PE X b tb) (hc:PE X c tc)
  (hm:lastMarks [op,op'] [b,c]=false:=by with_unfolding_all rfl):PT X (.Compare a [op,op'] [b,c] pos) (ZiJ (ZhX r r' ta tb tc)):=by
 intro pins s σ H Q I h
 refine isTrue_chain (thn (ha pins s σ H _ I h) fun v s1 ⟨x,H1,I1,r1,q1⟩=>test_link (thn (hb pins s1 σ H1 _ I1 q1) fun u s2 ⟨y,H2,I2,r2,q2⟩ =>
  thn (ho pins s2 σ H2 x y v u _ I2 r1 r2 q2) fun d s3 ⟨z,H3,I3,r3,k,e,q3⟩=>?_)) hm
 subst e
 cases r3
 refine wpAny_truthy_bool ?_
 cases k with
 |false =>
  obtain⟨k',e',q'⟩:=q3
  cases e'
  exact ite_ff ⟨H3,I3,q'⟩
 |true =>
  refine ite_tt (test_last (thn (hc pins s3 σ H3 _ I3 q3) fun w' s4 ⟨z',H4,I4,r4,q4⟩=>thn (ho' pins s4 σ H4 y z' u w' _ I4 r2 r4 q4) fun d' s5 ⟨z2,H5,I5,r5,k2,e2,q5⟩=>?_))
  subst e2
  cases r5
  exact wpAny_truthy_bool ⟨H5,I5,q5⟩
def Zmw (K:W.Frag) (x:V) (H:Hp) (k:Bool):Prop:=
 match x with
 |.non=>k=false
 |.bl b=>k=b
 |.int i=>k=(i != 0)
 |.str y=>y.length<=sizeLine/\k=((y.length:Int) != 0)
 |.byt y=>y.size<=sizeLine/\k=((y.size:Int) != 0)
 |.ref p=>(∃xs,SqL K H p xs/\k=!xs.isEmpty)\/(∃xs,SqT K H p xs/\k=!xs.isEmpty)\/∃kvs,H p=some (.dK kvs)/\k=!kvs.isEmpty
 |_=>False
theorem Zej {κ:Type}{kvs:List (κ×V)}{vs:List (κ×Value)} (r:KV kvs vs):(!vs.isEmpty)=!kvs.isEmpty:=by
 cases r<;>rfl
theorem QY {xs:List V}{its:List Value} (r:Jb xs its):(!its.toArray.isEmpty)=!xs.isEmpty:=by
 cases r<;>simp
theorem Qx:(sizeLine:Nat)<2^63:=by rw[sizeLine_eq];decide
theorem Zkl:Znh X (fun x H Q=>∃k,Zmw X.K x H k/\Q k H):=by
 intro pins s σ H x v Q I rx h
 obtain⟨k,e,q⟩:=h
 have hl:=Qx
 have hs:sizeLine=16777216:=sizeLine_eq
 cases x with
 |non =>
  cases rx
  have e':k=false:=e
  subst e'
  exact truthy_none ⟨H,I,q⟩
 |bl b =>
  cases rx
  have e':k=b:=e
  subst e'
  exact wpAny_truthy_bool ⟨H,I,q⟩
 |int i =>
  obtain⟨t,rfl⟩:=rx
  have e':k=(i != 0):=e
  subst e'
  exact PySem.P.truthy_int ⟨H,I,q⟩
 |str y =>
  obtain⟨t,rfl⟩:=rx
  obtain⟨hy,e'⟩:y.length<=sizeLine/\k=((y.length:Int) != 0):=e
  subst e'
  exact PySem.P.truthy_str (by omega) ⟨H,I.tok _,q⟩
 |byt y =>
  obtain⟨t,rfl⟩:=rx
  obtain⟨hy,e'⟩:y.size<=sizeLine/\k=((y.size:Int) != 0):=e
  subst e'
  exact PySem.W.truthy_bytes (by omega) ⟨H,I.tok _,q⟩
 |ref p =>
  cases rx
  have e':(∃xs,SqL X.K H p xs/\k=!xs.isEmpty)\/(∃xs,SqT X.K H p xs/\k=!xs.isEmpty)\/∃kvs,H p=some (.dK kvs)/\k=!kvs.isEmpty:=e
  rcases e' with ⟨xs,hx,e'⟩|⟨xs,hx,e'⟩|⟨kvs,hx,e'⟩
  ·subst e'
   obtain⟨its,r,pl,hz⟩:=I.list hx
   have hlen:=r.length
   exact wpAny_truthy_list pl.isList (by simp only[ZtL];omega) ⟨H,I.tok _,by rw[QY r];exact q⟩
  ·subst e'
   obtain⟨its,r,pl,hz⟩:=I.tuple hx
   have hlen:=r.length
   exact truthy_tuple pl (by simp only[ZtL];omega) ⟨H,I.tok _,by rw[QY r];exact q⟩
  ·subst e'
   obtain⟨hz,hS,vs,r,m⟩:kvs.length<=sizeLine/\(p==sysModules)=false/\∃vs,KV kvs vs/\s.heap.DictOf (Jv X.prog X.w) p vs:=I.hok p _ hx
   have hlen:kvs.length=vs.length:=Paired.length r
   exact wpAny_truthy_dict hS m (by omega) ⟨H,I.tok _,by rw[Zej r];exact q⟩
 |_=>exact(show False from e).elim
theorem ZgZ (ha:PE X a ta) (he:∀whole,isTrue a X.env whole=(do let v <- whole;standAt a.pos;holding [v] (truthy v))) :
  PT X a (fun σ H Q=>ta σ H fun x H'=>∃k,Zmw X.K x H' k/\Q k H'):=by
 intro pins s σ H Q I h
 exact isTrue_plain (thn (ha pins s σ H _ I h) fun v s1 ⟨x,H1,I1,r1,q1⟩=>Zkl pins s1 σ H1 x v Q I1 r1 q1) (he _)
theorem QE {x:V}{us:List Value} (r:Jb [x] us):∃u,us=[u]/\Jt x u:=by
 cases r with
 |cons r1 r2=>cases r2;exact⟨_,rfl,r1⟩
theorem Zkj {x y:V}{us:List Value} (r:Jb [x,y] us):∃u w',us=[u,w']/\Jt x u/\Jt y w':=by
 cases r with
 |cons r1 r2 =>
  cases r2 with
  |cons r3 r4=>cases r4;exact⟨_,_,rfl,r1,r3⟩
theorem Zgr (hc:X.calm=true):JX X (.builtin "max") (fun xs H Q=>∃i j,xs=[.int i,.int j]/\Q (.int (if j>i then j else i)) H):=by
 intro pins s σ H xs us Q I r h
 obtain⟨i,j,rfl,q⟩:=h
 obtain⟨u,w',rfl,⟨t,rfl⟩,⟨t',rfl⟩⟩:=Zkj r
 refine max_two_ints (I.ok.hd hc) fun h' tk k=>⟨_,H,I.kept k, ?_,q⟩
 by_cases hj:j>i
 ·rw[if_pos hj,if_pos hj];exact⟨_,rfl⟩
 ·rw[if_neg hj,if_neg hj];exact⟨_,rfl⟩
theorem Zgt:JX X (.type "int") (fun xs H Q=>(∃i,xs=[.int i]/\Q (.int i) H)\/∃k,xs=[.bl k]/\Q (.int (if k then 1 else 0)) H):=by
 intro pins s σ H xs us Q I r h
 rcases h with ⟨i,rfl,q⟩|⟨k,rfl,q⟩
 ·obtain⟨u,rfl,t,rfl⟩:=QE r
  exact call_int_int ⟨.int i,H,I,⟨_,rfl⟩,q⟩
 ·obtain⟨u,rfl,r1⟩:=QE r
  cases r1
  exact call_int_bool ⟨.int (if k then 1 else 0),H,I.tok _,⟨_,rfl⟩,q⟩
end
theorem ZgG.some_of {v:V}{o:Option Value} (r:ZgG (some v) o):∃u,o=some u/\Jt v u:=by
 cases o with
 |none=>exact(show False from r).elim
 |some u=>exact⟨u,rfl,r⟩
section
end
structure Cls (K:PySem.W.Frag) (C:Addr):Prop where
 pg:PySem.W.plainGet K C Str.empty=true
 hd:PySem.W.hasDictIn K C=true
 po:PySem.W.plainOver K C=true
 sa:PySem.W.findIn K (.ref C) "__setattr__"=some (some (.builtin "object.__setattr__"))
section
end
structure UH (k:Nat) (A:Around):Prop where
 hd:A.handled=none
 dp:A.depth+3*k+5<recursionLimit
 un:A.units+16*k+200<cLine
theorem UH.mono {j k:Nat}{A:Around} (r:UH k A) (h:j<=k):UH j A:=⟨r.hd,by have:=r.dp;omega,by have:=r.un;omega⟩
theorem UH.deeper {k:Nat}{A:Around} (r:UH (k+1) A) (env:Env):UH k (A.deeper env):=
 ⟨r.hd,by have:=r.dp;show A.depth+1+3*k+5<_;omega,by have:=r.un;show A.units+3+16*k+200<_;omega⟩
theorem UH.depth {k:Nat}{A:Around} (r:UH k A):A.depth<recursionLimit:=by have:=r.dp;omega
theorem UH.units {k:Nat}{A:Around} (r:UH k A):A.units+64<cLine:=by have:=r.un;omega
noncomputable def Zey:TA:=fun _ H Q=>Q [] H
noncomputable def Qb (ta:TE) (tr:TA):TA:=fun σ H Q=>ta σ H fun x H1=>tr σ H1 fun xs H2=>Q (x::xs) H2
section
variable {X:Cx}{e:Expr}{es:List Expr}{te:TE}{t:TA}{pos:Pos}
theorem Zf:PA X [] Zey:=fun _ _ _ _ H Q I h=>Calls.spliced_nil ⟨[],H,I,.nil,h⟩
theorem Za (ha:PE X e te) (hr:PA X es t) (hs:starEach (e::es) X.env=(false,eval e X.env)::starEach es X.env:=by rfl):PA X (e::es) (Qb te t):=by
 intro pos pins s σ H Q I h
 rw[hs]
 show wpAny _ _ (spliced ((false,eval e X.env)::backTo pos (starEach es X.env))) _ _ s
 refine Calls.spliced_cons (thn (ha pins s σ H _ I h) fun u s1 ⟨x,H1,I1,r1,q1⟩=>?_)
 exact thn (hr pos pins s1 σ H1 _ I1 q1) fun us s2 ⟨xs,H2,I2,r2,q2⟩=>⟨x::xs,H2,I2,.cons r1 r2,q2⟩
noncomputable def ZlS (t:TA):TE:=fun σ H Q=>t σ H fun xs H1=>xs.length<=sizeLine/\∀p,H1 p=none->Q (.ref p) (upd H1 p (.tup xs))
noncomputable def ZlD (t:TA):TE:=fun σ H Q=>t σ H fun xs H1=>xs.length<=sizeLine/\∀p,H1 p=none->Q (.ref p) (upd H1 p (.lst xs))
theorem VG {x1} (h:PA X es t):PE X (.Tuple es x1 pos) (ZlS t):=by
 intro pins s σ H Q I hq
 refine wpAny_Tuple_spliced (thn (h pos pins s σ H _ I hq) fun us s1 ⟨xs,H1,I1,r,z,q⟩=>⟨by rw[<- r.length];exact z, ?_⟩)
 have hf:H1 s1.heap.objs.size=none:=I1.hok.fresh (ZtE _)
 refine⟨.ref s1.heap.objs.size,upd H1 s1.heap.objs.size (.tup xs),I1.laid (t':=s1.toks) (fun b u e=>Heap.get?_push_of_some _ e) (ZtE _) ?_,rfl,q _ hf⟩
 exact⟨z,us,r,⟨_,Heap.get?_push_size _ rfl,rfl,_,rfl⟩⟩
theorem Va (h:PA X es t):PE X (.List es pos) (ZlD t):=by
 intro pins s σ H Q I hq
 refine wpAny_List_spliced (thn (h pos pins s σ H _ I hq) fun us s1 ⟨xs,H1,I1,r,z,q⟩=>⟨by rw[<- r.length];exact z, ?_⟩)
 have hf:H1 s1.heap.objs.size=none:=I1.hok.fresh (ZtE _)
 refine⟨.ref s1.heap.objs.size,upd H1 s1.heap.objs.size (.lst xs),I1.laid (t':=s1.toks) (fun b u e=>Heap.get?_push_of_some _ e) (ZtE _) ?_,rfl,q _ hf⟩
 exact⟨z,us,0,r,Heap.get?_push_size _ rfl⟩
end
noncomputable abbrev Sp:=List V->Hp->VK->XK->Prop
noncomputable abbrev CXT:=List Env->Hp->Shared->XK->Value->Shared->Prop
structure ZlM (P:Program) (w:World) (K:PySem.W.Frag) (mg:Str->Option Value) (base:Heap) (A:Around) (outer:List Env) (s:Shared) (H:Hp):Prop where
 frames:A.frames=some outer
 mod:Mod K mg base
 bs:∀b o,base.get? b=some o->s.heap.get? b=some o/\H b=none
 bsz:base.objs.size<=s.heap.objs.size
 funs:s.heap.FunFrames base outer
 frf:∀b∈frs outer,H b=none
 hok:HOk P w H s.heap
 bare:AllBare s.gens
def CE (outer:List Env) (P:Program) (w:World) (H:Hp) (s:Shared) (Q:VK) (u:Value) (s':Shared):Prop:=
 ∃v H',s'.os=s.os/\AllBare s'.gens/\Un (frs outer) [] H H' s.heap s'.heap/\HOk P w H' s'.heap/\Jt v u/\Q v H'
def CR (CX:CXT) (outer:List Env) (P:Program) (w:World) (H:Hp) (s:Shared) (Q:VK) (E:XK) (r:Result) (s':Shared):Prop:=
 match r with
 |.ok (.ret u)=>CE outer P w H s Q u s'
 |.ok _=>False
 |.error e=>CX outer H s E e s'
structure JB (P:Program) (w:World) (K:PySem.W.Frag) (mg:Str->Option Value) (base:Heap) (CX:CXT) (k:Nat) (f:Addr) (fd:FuncData) (ps:List Str) (sp:Sp):Prop where
 len:∀vs H Q E,sp vs H Q E->vs.length=ps.length
 run:∀(A:Around) (outer:List Env) (s:Shared) (H:Hp) (args:Args) (us:List Value) (vs:List V) (Q:VK) (E:XK),UH k A->ZlM P w K mg base A outer s H->BindsTo s fd args (ps.zip us)->Jb vs us->sp vs H Q E ->
  codeAny (model P w) A (.call (.ref f) args) (CR CX outer P w H s Q E) s
section
variable {X:Cx}{pins:List (Addr×Obj)}{σ:St}{H:Hp}{s s':Shared}
theorem Inv.env0 (I:Inv X pins σ H s):ZlM X.prog X.w X.K X.mg X.base X.A X.stack s H:=
 ⟨I.ok.frames,I.ok.mod,I.bs,ZtV I.ok.bsz I.sz,I.stack,I.stkFree,I.hok,I.bare⟩
theorem Inv.after {Q:VK}{u:Value} (I:Inv X pins σ H s) (h:CE X.stack X.prog X.w H s Q u s'):EP X pins σ Q u s':=by
 obtain⟨v,H',os,bare,un,hok,r,q⟩:=h
 obtain⟨hh,g,d,t,os'⟩:=s'
 obtain rfl:os'=s.os:=os
 exact⟨v,H',I.call (h':=hh) (g':=g) (d':=d) (t':=t) (ch:=[]) un hok bare (fun b z=>absurd z (by simp)),r,q⟩
end
noncomputable def Zks (sp:Sp) (dvs:List V) (E:XK) (t:TA):TE:=fun σ H Q=>t σ H fun vs H1=>sp (vs++dvs) H1 Q E
def ZbL (K:W.Frag) (fd:FuncData) (ps:List Str) (ds:List Value):Prop:=
 ∀(s:Shared) (us:List Value),K.In s.heap->(us++ds).length=ps.length->BindsTo s fd ⟨us,[]⟩ (ps.zip (us++ds))
theorem ZbL.all {K:W.Frag}{fd:FuncData}{ps:List Str} (h:∀us:List Value,us.length=ps.length->bindArgs fd ⟨us,[]⟩=pure (ps.zip us)):ZbL K fd ps []:=fun s us _ hl=>by
 rw[Zu9] at hl ⊢
 exact .of_eq (h us hl)
def ZdK (CX:CXT) (X:Cx) (E:XK):Prop:=∀(pins:List (Addr×Obj)) (σ:St) (H:Hp) (s:Shared) (e:Value) (s':Shared),Inv X pins σ H s->CX X.stack H s E e s'->X.xe e s'
section
variable {X:Cx}{CX:CXT}{k:Nat}{f:Addr}{fd:FuncData}{ps:List Str}{sp:Sp}{dvs:List V}{ds:List Value}{E:XK}{x:Str}{p pos:Pos}{e:Expr}{es:List Expr}{t:TA}
theorem ZhY {pins:List (Addr×Obj)}{σ:St}{H:Hp}{s:Shared}{Q:VK}{us:List Value}{vs:List V} (F:JB X.prog X.w X.K X.mg X.base CX k f fd ps sp) (hr:UH k X.A) (hb:ZbL X.K fd ps ds) (hd:Jb dvs ds) (hx:ZdK CX X E)
  (I:Inv X pins σ H s) (r:Jb vs us) (h:sp (vs++dvs) H Q E):wpAny (model X.prog X.w) X.A (call (.ref f) us) (EP X pins σ Q) X.xe s:=by
 have r2:Jb (vs++dvs) (us++ds):=r.append hd
 have hl:(us++ds).length=ps.length:=by rw[<- r2.length];exact F.len _ _ _ _ h
 refine wpAny_call (codeAny_mono (F.run X.A X.stack s H ⟨us,[]⟩ (us++ds) (vs++dvs) Q E hr I.env0 (hb s us I.kIn hl) r2 h) fun r s' hq=>?_)
 cases r with
 |error e=>exact hx pins σ H s e s' I hq
 |ok fl =>
  cases fl with
  |ret u=>exact I.after hq
  |next=>exact False.elim hq
  |brk=>exact False.elim hq
  |cont=>exact False.elim hq
theorem Zjf (F:JB X.prog X.w X.K X.mg X.base CX k f fd ps sp) (hr:UH k X.A) (hg:Gl X x) (hm:X.mg x=some (.ref f)) (hk:PySem.W.keepIn X.K (.ref f)=true) (hb:ZbL X.K fd ps ds) (hd:Jb dvs ds) (hx:ZdK CX X E)
  (ha:PA X (e::es) t) (hdb:(x==("__debug__":Str))=false:=by decide) (he:starEach (e::es) X.env=(false,eval e X.env)::starEach es X.env:=by rfl) (hpl:(backTo pos (starEach es X.env)).any (·.1)=false:=by rfl) :
  PE X (.Call (.Name x p) (e::es) [] pos) (Zks sp dvs E t):=by
 intro pins s σ H Q I h
 refine wpAny_Call_Name_kw (Qz I hg hm ?_ hdb)
 refine PySem.W.callWith_K (h₀:=X.base) I.ok.mod.kin hk (thn (ha pos pins s σ H _ I h) fun us s1 ⟨vs,H1,I1,r,q⟩=>⟨I1.kIn, ?_⟩) he hpl
 exact ZhY F hr hb hd hx I1 r q
theorem Zhe (F:JB X.prog X.w X.K X.mg X.base CX k f fd ps sp) (hr:UH k X.A) (hg:Gl X x) (hm:X.mg x=some (.ref f)) (hk:PySem.W.keepIn X.K (.ref f)=true) (hb:ZbL X.K fd ps ds) (hd:Jb dvs ds) (hx:ZdK CX X E)
  (hdb:(x==("__debug__":Str))=false:=by decide):PE X (.Call (.Name x p) [] [] pos) (Zks sp dvs E Zey):=by
 intro pins s σ H Q I h
 refine wpAny_Call_Name_kw (Qz I hg hm ?_ hdb)
 exact PySem.W.callWith_K0 I.kIn hk (ZhY (us:=[]) F hr hb hd hx I .nil h)
end
structure Zz (N P:List Str) (sc:Scope):Prop where
 kind:sc.kind=.function
 co:sc.isCoroutine=false
 gen:sc.isGenerator=false
 nd:N.Nodup
 pre:N.take P.length=P
 par:∀x∈P,sc.names.lookup x=some .local\/sc.names.lookup x=some .cell
 nofree:∀y∈sc.names,y.2≠.free
theorem ZbH {kindOf:Str->Option NameKind}{x:Str}:∀{binds:List (Str×Value)}{m:Str->Option Value},(∀v,(x,v) ∉ binds)->bindL kindOf binds m x=m x
 |[],_,_=>rfl
 |(n,v)::r,m,h=>by
  unfold bindL
  rw[ZbH fun w hw=>h w (Zui _ hw)]
  split
  ·have:x≠n:=by rintro rfl;exact h v ZuB
   simp[this]
  ·rfl
theorem ZbJ {kindOf:Str->Option NameKind}{x:Str}:∀{binds:List (Str×Value)}{m:Str->Option Value},(∀v,(x,v) ∉ binds)->bindC kindOf binds m x=m x
 |[],_,_=>rfl
 |(n,v)::r,m,h=>by
  unfold bindC
  rw[ZbJ fun w hw=>h w (Zui _ hw)]
  split
  ·rfl
  ·have:x≠n:=by rintro rfl;exact h v ZuB
   simp[this]
theorem ZbI {kindOf:Str->Option NameKind}{x:Str}{v:Value}:∀{P:List Str}{vs:List Value}{i:Nat}{m:Str->Option Value},P.Nodup->P[i]?=some x->vs[i]?=some v->kindOf x=some .local ->
  bindL kindOf (P.zip vs) m x=some v
 |[],_,_,_,_,h,_,_=>by simp at h
 |_::_,[],_,_,_,_,h,_=>by simp at h
 |p::P,w::vs,0,m,nd,h1,h2,hk=>by
  simp at h1 h2;subst h1;subst h2
  show bindL kindOf ((p,w)::P.zip vs) m p=_
  unfold bindL
  rw[ZbH fun v hv=>(ZuL.mp nd).1 (ZvE hv).1,if_pos hk]
  simp
 |p::P,w::vs,i+1,m,nd,h1,h2,hk=>by
  show bindL kindOf ((p,w)::P.zip vs) m x=_
  unfold bindL
  exact ZbI (i:=i) (ZuL.mp nd).2 (by simpa using h1) (by simpa using h2) hk
theorem ZbK {kindOf:Str->Option NameKind}{x:Str}{v:Value}:∀{P:List Str}{vs:List Value}{i:Nat}{m:Str->Option Value},P.Nodup->P[i]?=some x->vs[i]?=some v->kindOf x≠some .local ->
  bindC kindOf (P.zip vs) m x=some v
 |[],_,_,_,_,h,_,_=>by simp at h
 |_::_,[],_,_,_,_,h,_=>by simp at h
 |p::P,w::vs,0,m,nd,h1,h2,hk=>by
  simp at h1 h2;subst h1;subst h2
  show bindC kindOf ((p,w)::P.zip vs) m p=_
  unfold bindC
  rw[ZbJ fun v hv=>(ZuL.mp nd).1 (ZvE hv).1,if_neg hk]
  simp
 |p::P,w::vs,i+1,m,nd,h1,h2,hk=>by
  show bindC kindOf ((p,w)::P.zip vs) m x=_
  unfold bindC
  exact ZbK (i:=i) (ZuL.mp nd).2 (by simpa using h1) (by simpa using h2) hk
noncomputable def VY (N:List Str) (vs:List V):St:=vs.map some++List.replicate (N.length-vs.length) none
noncomputable def ZbC (CX:CXT) (P:Program) (w:World) (K:W.Frag) (mg:Str->Option Value) (base:Heap) (N:List Str) (qual:Str) (scope:Scope) (f:Addr) (cd:Value) (A:Around) (outer:List Env) (s:Shared) (H:Hp) (E:XK):Cx where
 prog:=P
 w:=w
 K:=K
 mg:=mg
 base:=base
 A:=A.deeper (envOfC qual scope s.heap.objs.size f cd)
 N:=N
 s₀:=s
 H₀:=H
 env:=envOfC qual scope s.heap.objs.size f cd
 outer:=outer
 stack:=envOfC qual scope s.heap.objs.size f cd::outer
 ex:=[]
 calm:=true
 fn:=fun _=>true
 pn:=[]
 xe:=fun e s'=>wpAny (model P w) (A.deeper (envOfC qual scope s.heap.objs.size f cd)) (leaving (envOfC qual scope s.heap.objs.size f cd) e) (fun _ s''=>CX outer H s E e s'') (fun e' s''=>CX outer H s E e' s'') s'
theorem ZdE {sc:Scope}{n:Nat}{x:Str} (h:sc.names.lookup x=some .cell):∃c,(cellsFrom n sc.names []).lookup x=some c:=by
 have q:=PySem.W.cellsFrom_some sc.names n [] (.inl h)
 exact Option.isSome_iff_exists.mp q
theorem ZfE {CX:CXT}{P:Program}{w:World}{K:W.Frag}{mg:Str->Option Value}{base:Heap}{N ps:List Str}{qual:Str}{scope:Scope}{f:Addr}{cd:Value}{A:Around}{outer:List Env}{s s1:Shared}{H:Hp}{E:XK}{us:List Value}{vs:List V}
  (S:Zz N ps scope) (hd:A.handled=none) (e0:ZlM P w K mg base A outer s H) (hl:vs.length=ps.length) (r:Jb vs us)
  (x:InCallC s s.heap.objs.size (bindL (envOfC qual scope s.heap.objs.size f cd).kindOf (ps.zip us) fun _=>none) (cellsFrom (s.heap.objs.size+1) scope.names []) (bindC (envOfC qual scope s.heap.objs.size f cd).kindOf (ps.zip us) fun _=>none) s1) :
  Inv (ZbC CX P w K mg base N qual scope f cd A outer s H E) [] (VY N vs) H s1:=by
 have hpl:ps.length<=N.length:=by have:=congrArg List.length S.pre;rw[ZtR] at this;omega
 obtain⟨h1,tk,rfl,hk⟩:=x.done
 have noA:∀b:Addr,b ∉ (ZbC CX P w K mg base N qual scope f cd A outer s H E).ex:=fun b z=>absurd (show b∈([]:List Addr) from z) (by simp)
 refine⟨⟨e0.mod,S.kind,rfl,rfl,ZtE _,fun y z c h1 h2=>?_,fun y hy=>?_,fun y c _ h=>?_,fun _=>hd,Around.frames_deeper e0.frames,.inr ⟨rfl,rfl⟩,fun b z=>absurd z (noA b),e0.bs,e0.bsz,fun b _ _=>noA b,fun b z=>absurd z (noA b),e0.funs,e0.frf⟩,
  rfl,e0.bare,Un.kept hk,⟨_,x.toInCall.ns,fun i y v h1 h2 h3=>?_⟩,fun y c h=>⟨_,x.cell y c h⟩,e0.hok.fresh (ZtE _),fun y c h=>?_,fun p hp=>absurd (show p∈([]:List (Addr×Obj)) from hp) (by simp),e0.hok.kept hk, ?_⟩
 ·exact name_of_addr x.apart (PySem.mem_of_lookup h1) (PySem.mem_of_lookup h2)
 ·have hy:scope.names.lookup y=some .cell\/scope.names.lookup y=some .free:=hy
  rcases hy with hy|hy
  ·exact ZdE hy
  ·exact absurd rfl (S.nofree _ (PySem.mem_of_lookup hy))
 ·exact Nat.le_of_lt (x.above y c (PySem.mem_of_lookup h))
 ·have hi:i<vs.length:=by
   unfold VY at h2
   by_cases hi:i<vs.length
   ·exact hi
   ·rw[ZtJ (by simpa using hi)] at h2
    rw[ZuZ] at h2
    split at h2<;>cases h2
  have ha:vs[i]?=some v:=by
   unfold VY at h2
   rw[ZtI (by simpa using hi),ZtT] at h2
   cases e:vs[i]? with
   |none=>rw[e] at h2;cases h2
   |some a=>rw[e] at h2;cases h2;rfl
  obtain⟨u,hu,rv⟩:=r.get ha
  have hp:ps[i]?=some y:=by
   rw[<- S.pre,List.getElem?_take_of_lt (by omega)];exact h1
  have ndP:ps.Nodup:=by rw[<- S.pre];exact S.nd.sublist (List.take_sublist _ _)
  refine⟨u,rv, ?_⟩
  rcases S.par y (ZtA hp) with k|k
  ·exact .inl ⟨k,ZbI ndP hp hu k⟩
  ·obtain⟨c,e⟩:=ZdE (n:=s.heap.objs.size+1) k
   refine .inr ⟨.inl k,c,e, ?_⟩
   have q:=x.cell y c e
   rw[ZbK ndP hp hu (by show scope.names.lookup y≠_;rw[k];decide)] at q
   exact q
 ·exact e0.hok.fresh (Nat.le_of_lt (x.above y c (PySem.mem_of_lookup h)))
 ·unfold VY
  show _=N.length
  rw[Zus,ZtG,List.length_replicate]
  omega
theorem Zlg {CX:CXT}{P:Program}{w:World}{K:W.Frag}{mg:Str->Option Value}{base:Heap}{k:Nat}{f:Addr}{name qual:Str}{params:Arguments}{body:List Stmt}{scope:Scope}{dV kV doc pm cdv ct oc:Value}{an od:Option Addr}
  {osl:Array (Option Value)}{N ps:List Str}{sp:Sp} (lk:K.lookup f=some ⟨oc,od,.func (PySem.W.fnOf name qual params body scope dV kV doc pm an cdv ct),osl⟩) (hcd:PySem.W.codeIn K cdv qual=true) (S:Zz N ps scope)
  (len:∀vs H Q E,sp vs H Q E->vs.length=ps.length)
  (hbody:∀(A:Around) (outer:List Env) (s:Shared) (H:Hp) (vs:List V) (Q:VK) (E:XK),UH k (A.deeper (envOfC qual scope s.heap.objs.size f cdv))->sp vs H Q E ->
   ∃t,PSs (ZbC CX P w K mg base N qual scope f cdv A outer s H E) body t/\t { nx:=fun _ H'=>Q .non H',rt:=Q } (VY N vs) H) :
  JB P w K mg base CX (k+1) f (PySem.W.fnOf name qual params body scope dV kV doc pm an cdv ct) ps sp:=by
 refine⟨len,fun A outer s H args us vs Q E hr e0 hb r hsp=>?_⟩
 have hl:=len _ _ _ _ hsp
 have KX:K.In s.heap:=e0.mod.kin.keeps fun b o e=>(e0.bs b o e).1
 have lim:s.heap.NoLimit:=e0.mod.nolimit.keeps fun b o e=>(e0.bs b o e).1
 have hkind:∀y∈ps.zip us,scope.names.lookup y.1=some .local\/(scope.names.lookup y.1=some .cell/\((cellsFrom (s.heap.objs.size+1) scope.names []).lookup y.1).isSome=true):=fun⟨n,v⟩ hy=>by
  rcases S.par n (ZvE hy).1 with q|q
  ·exact .inl q
  ·exact .inr ⟨q,PySem.W.cellsFrom_some _ _ _ (.inl q)⟩
 refine codeAny_call_function hr.depth (KX _ _ lk) rfl S.co S.gen rfl (PySem.W.codeRec_of KX hcd) (hb _ _ _ _ ?_)
 refine wpAny_newFunctionEnv_cells S.kind hkind fun env he s1 x=>?_
 subst he
 refine⟨lim.keeps x.toInCall.keep,codeAny_func ?_⟩
 obtain⟨t,ht,hq⟩:=hbody A outer s H vs Q E (hr.deeper _) hsp
 have I:Inv (ZbC CX P w K mg base N qual scope f cdv A outer s H E) [] (VY N vs) H s1:=ZfE S hr.hd e0 hl r x
 refine wpAny_mono (ht [] s1 (VY N vs) H _ I hq) (fun fl s' hs=>?_) fun e s' hs=>hs
 have fin:∀{σ':St}{H':Hp}{v:V}{u:Value},Inv (ZbC CX P w K mg base N qual scope f cdv A outer s H E) [] σ' H' s'->Jt v u->Q v H'->CE outer P w H s Q u s':=
  fun {σ' H' v u} J rv q=>⟨v,H',J.os,J.bare,J.base,J.hok,rv,q⟩
 cases fl with
 |ret u =>
  obtain⟨v,σ',H',J,rv,q⟩:=hs
  exact fin J rv q
 |next =>
  obtain⟨σ',H',J,q⟩:=hs
  exact fin (v:=V.non) (u:=Value.none) J rfl q
 |brk =>
  obtain⟨_,_,_,q⟩:=hs
  exact False.elim q
 |cont =>
  obtain⟨_,_,_,q⟩:=hs
  exact False.elim q
section
variable {X:Cx}{x:Str}{p pos:Pos}{e:Expr}{es:List Expr}{t:TA}{id T:String}{r:List V->Hp->VK->Prop}
noncomputable def tCB (r:List V->Hp->VK->Prop) (t:TA):TE:=fun σ H Q=>t σ H fun vs H1=>r vs H1 Q
theorem Zo (hc:JX X (.builtin id) r) (hg:Gl X x) (hm:X.mg x=none) (hv:bootBuiltins x=some (.builtin id)) (ha:PA X (e::es) t) (hn:x ≠ "__name__":=by decide) (hdb:(x==("__debug__":Str))=false:=by decide)
  (he:starEach (e::es) X.env=(false,eval e X.env)::starEach es X.env:=by rfl) (hpl:(backTo pos (starEach es X.env)).any (·.1)=false:=by rfl):PE X (.Call (.Name x p) (e::es) [] pos) (tCB r t):=by
 intro pins s σ H Q I h
 refine wpAny_Call_Name_kw (Zbu I hg hm hv ?_ hn hdb)
 exact PyProof.Rows.callWith_builtin1 (thn (ha pos pins s σ H _ I h) fun us s1 ⟨vs,H1,I1,r1,q1⟩=>hc pins s1 σ H1 vs us Q I1 r1 q1) he hpl
theorem ZG (hc:JX X (.type T) r) (hg:Gl X x) (hm:X.mg x=none) (hv:bootBuiltins x=some (.type T)) (ha:PA X (e::es) t) (hn:x ≠ "__name__":=by decide) (hdb:(x==("__debug__":Str))=false:=by decide)
  (he:starEach (e::es) X.env=(false,eval e X.env)::starEach es X.env:=by rfl) (hpl:(backTo pos (starEach es X.env)).any (·.1)=false:=by rfl):PE X (.Call (.Name x p) (e::es) [] pos) (tCB r t):=by
 intro pins s σ H Q I h
 refine wpAny_Call_Name_kw (Zbu I hg hm hv ?_ hn hdb)
 exact PyProof.Rows.callWith_type1 (thn (ha pos pins s σ H _ I h) fun us s1 ⟨vs,H1,I1,r1,q1⟩=>hc pins s1 σ H1 vs us Q I1 r1 q1) he hpl
end
end L2
namespace HT
open PySem PyProof.Rows
noncomputable def ZL:List Int->List Int->Bool
 |[],[]=>false
 |[],_::_=>true
 |_::_,[]=>false
 |x::xs,y::ys=>if x=y then ZL xs ys else decide (x<y)
theorem JC (x y:Int) (xs ys:List Int):ZL (x::xs) (y::ys)=if x=y then ZL xs ys else decide (x<y):=rfl
theorem Za5:ZL [] []=false:=rfl
theorem QG (y:Int) (ys:List Int):ZL [] (y::ys)=true:=rfl
theorem QH (x:Int) (xs:List Int):ZL (x::xs) []=false:=rfl
theorem ZhA (A:Around) (s:Shared) (a:Int) (t:Tok) (c:Int) (u:Tok):∃e,SeqAt.EqAt A s (.int a t) (.int c u) e/\(e=true ↔ a=c):=
 ⟨(a==c),SeqAt.EqAt.int_int a t c u,by simp⟩
theorem ZgV (A:Around) (s:Shared) (a:Int) (t:Tok) (c:Int) (u:Tok) (prog:Program) (w:World) (E:Value->Shared->Prop) (Q:Value->Shared->Prop) (h:Q (.bool (decide (a<c))) s) :
  wpAny (model prog w) A (richCompare .Lt (.int a t) (.int c u)) Q E s:=
 (PyProof.Rows.lt_int h:wpAny (model prog w) A (compareOp .Lt (.int a t) (.int c u)) Q E s)
section
open PySem.SeqAt
open PySem.AutoSeq1 (wpAny_loadPart')
open PySem.MeetsSeq PySem.MeetsSeq2 PySem.MeetsSeq3
end
section
noncomputable def sIx (n d:Nat):Option Int->Nat
 |none=>d
 |some v=>if v<0 then (v+(n:Int)).toNat else min v.toNat n
end
end HT
namespace L2
open PySem PySem.Spec PyProof.Rows
noncomputable abbrev TO:=St->Hp->(Option Int->Hp->Prop)->Prop
def PO (X:Cx) (e:Option Expr) (t:TO):Prop:=
 ∀(pins:List (Addr×Obj)) (s:Shared) (σ:St) (H:Hp) (Q:Option Int->Hp->Prop),Inv X pins σ H s->t σ H Q ->
  wpAny (model X.prog X.w) X.A (evalPart e X.env) (fun u s'=>∃o H',Inv X pins σ H' s'/\IsPart u o/\Q o H') X.xe s
noncomputable def ZeA:TO:=fun _ H Q=>Q none H
noncomputable def Zkn (t:TE):TO:=fun σ H Q=>t σ H fun x H1=>∃i,x=.int i/\Q (some i) H1
theorem VC {ns:List Int}:∀{us:List Value},Jb (ns.map V.int) us->IntsAre us ns:=by
 induction ns with
 |nil=>intro us r;rw[ZuY] at r;cases r;exact .nil
 |cons n ns ih =>
  intro us r
  rw[ZtP] at r
  cases r with
  |cons r1 r2 =>
   obtain⟨t,e⟩:=r1
   subst e
   exact .cons n t (ih r2)
section
variable {X:Cx}{e:Expr}{te:TE}{lo hi:Option Expr}{tl th:TO}{pos p2:Pos}
theorem Zcb:PO X none ZeA:=by
 intro pins s σ H Q I h
 rw[evalPart_none]
 exact wpAny_pure ⟨none,H,I,.none,h⟩
theorem Zca (h:PE X e te):PO X (some e) (Zkn te):=by
 intro pins s σ H Q I hw
 rw[evalPart_some]
 refine thn (h pins s σ H _ I hw) fun u s1 ⟨x,H1,I1,r1,q1⟩=>?_
 obtain⟨i,rfl,q⟩:=q1
 obtain⟨t,rfl⟩:=r1
 exact⟨some i,H1,I1,.int i t,q⟩
def SlR (X:Cx) (r:V->Option Int->Option Int->Hp->VK->Prop):Prop:=
 ∀(pins:List (Addr×Obj)) (s:Shared) (σ:St) (H:Hp) (x:V) (v vl vu:Value) (lo hi:Option Int) (sl:Addr) (Q:VK),Inv X pins σ H s->Jt x v->s.heap.IsSliceOf sl vl vu .none->IsPart vl lo->IsPart vu hi->r x lo hi H Q ->
  ∃T id,typeLookup (.type T) "__getitem__"=pure (some (.builtin id))/\s.TypeIs v T/\wpAny (model X.prog X.w) X.A (getItem v (.ref sl)) (EP X pins σ Q) X.xe s
noncomputable def tSl (r:V->Option Int->Option Int->Hp->VK->Prop) (te:TE) (tl th:TO):TE:=fun σ H Q=>te σ H fun x H1=>tl σ H1 fun l H2=>th σ H2 fun u H3=>r x l u H3 Q
theorem Zat {r:V->Option Int->Option Int->Hp->VK->Prop} (hr:SlR X r) (he:PE X e te) (hl:PO X lo tl) (hu:PO X hi th):PE X (.Subscript e (.Slice lo hi none p2) pos) (tSl r te tl th):=by
 intro pins s σ H Q I h
 refine Subscript_ (thn (he pins s σ H _ I h) fun v s1 ⟨x,H1,I1,r1,q1⟩=>?_)
 refine wpAny_Slice (thn (hl pins s1 σ H1 _ I1 q1) fun vl s2 ⟨l,H2,I2,pl,q2⟩=>thn (hu pins s2 σ H2 _ I2 q2) fun vu s3 ⟨u,H3,I3,pu,q3⟩=>?_)
 rw[evalPart_none]
 refine wpAny_pure ?_
 have I4:Inv X pins σ H3 { s3 with heap:=s3.heap.push { cls:=.type "slice",data:=.fields #[vl,vu,.none] } }:=I3.kept (t':=s3.toks) fun b ob q=>Heap.get?_push_of_some _ q
 obtain⟨T,id,hT,ht,hg⟩:=hr pins { s3 with heap:=s3.heap.push { cls:=.type "slice",data:=.fields #[vl,vu,.none] } } σ H3 x v vl vu l u s3.heap.objs.size Q I4 r1 (Heap.IsSliceOf.new ..) pl pu q3
 show wpAny (model X.prog X.w) X.A (subscriptTail e (.Slice lo hi none p2) v (.ref s3.heap.objs.size)) (EP X pins σ Q) X.xe { s3 with heap:=s3.heap.push { cls:=.type "slice",data:=.fields #[vl,vu,.none] } }
 exact tail_any (ops:=[.ref s3.heap.objs.size,v]) ht hT hg (by with_unfolding_all rfl)
noncomputable def Zkb (xs:List V) (lo hi:Option Int):List V:=(xs.drop (HT.sIx xs.length 0 lo)).take (HT.sIx xs.length xs.length hi-HT.sIx xs.length 0 lo)
theorem Zc0 (xs:List V) (lo hi:Option Int):(Zkb xs lo hi).length<=xs.length:=by
 unfold Zkb
 rw[ZtR,Zu5]
 omega
end
noncomputable def ixN (n:Nat) (i:Int):Option Nat:=if 0<=i then (if i<n then some i.toNat else none) else if -(n:Int)<=i then some (i+n).toNat else none
noncomputable def atI {α:Type} (xs:List α) (i:Int):Option α:=(ixN xs.length i).bind fun j=>xs[j]?
theorem U4 {n:Nat}{i:Int}{j:Nat} (h:ixN n i=some j):seqIndex? i n=some j/\j<n/\-(n:Int)<=i/\i<n:=by
 unfold ixN at h
 by_cases h0:0<=i
 ·rw[if_pos h0] at h
  by_cases h1:i<n
  ·rw[if_pos h1] at h
   have e:i.toNat=j:=Option.some.inj h
   exact⟨by rw[seqIndex_of h0 h1,e],by omega,by omega,h1⟩
  ·rw[if_neg h1] at h;cases h
 ·rw[if_neg h0] at h
  by_cases h1:-(n:Int)<=i
  ·rw[if_pos h1] at h
   have e:(i+n).toNat=j:=Option.some.inj h
   exact⟨by rw[seqIndex_neg (by omega) h1,e],by omega,h1,by omega⟩
  ·rw[if_neg h1] at h;cases h
theorem ZaO {α:Type}{xs:List α}{i:Int}{v:α} (h:atI xs i=some v):∃j,seqIndex? i xs.length=some j/\xs[j]?=some v/\j<xs.length/\-(xs.length:Int)<=i/\i<xs.length:=by
 unfold atI at h
 cases e:ixN xs.length i with
 |none=>rw[e] at h;cases h
 |some j =>
  rw[e] at h
  obtain⟨h1,h2,h3,h4⟩:=U4 e
  exact⟨j,h1,h,h2,h3,h4⟩
def ZjQ (b:Expr):Prop:=∀o i,subscripted b false o i=operate [o,i] (getItem o i)
def IxR (X:Cx) (r:R2):Prop:=
 ∀(value slice:Expr) (pins:List (Addr×Obj)) (s:Shared) (σ:St) (H:Hp) (x y:V) (v u:Value) (Q:VK),Inv X pins σ H s->Jt x v->Jt y u->r x y H Q ->
  subscripted slice false v u=operate [v,u] (getItem v u)->wpAny (model X.prog X.w) X.A (subscriptTail value slice v u) (EP X pins σ Q) X.xe s
def MtR (X:Cx) (id:String) (r:V->List V->Hp->VK->Prop):Prop:=
 ∀(pins:List (Addr×Obj)) (s:Shared) (σ:St) (H:Hp) (x:V) (xs:List V) (v:Value) (us:List Value) (Q:VK),Inv X pins σ H s->Jt x v->Jb xs us->r x xs H Q ->
  wpAny (model X.prog X.w) X.A (call (.builtin id) (v::us)) (EP X pins σ Q) X.xe s
section
variable {X:Cx}{a b:Expr}{ta tb:TE}{pos:Pos}
theorem IxR.or {r r':R2} (h:IxR X r) (h':IxR X r'):IxR X (fun x y H Q=>r x y H Q\/r' x y H Q):=by
 intro value slice pins s σ H x y v u Q I rx ry q hs
 rcases q with q|q
 ·exact h value slice pins s σ H x y v u Q I rx ry q hs
 ·exact h' value slice pins s σ H x y v u Q I rx ry q hs
theorem ZC {r:R2} (hr:IxR X r) (ha:PE X a ta) (hb:PE X b tb) (hs:ZjQ b):PE X (.Subscript a b pos) (tOp r ta tb):=by
 intro pins s σ H Q I h
 exact Subscript_ (Zmt ha hb I h fun v u s2 x y H2 I2 rx ry q=>hr a b pins s2 σ H2 x y v u Q I2 rx ry q (hs _ _))
noncomputable def Zk2 (K:W.Frag):R2:=fun x y H Q=>∃p xs i v,x=.ref p/\y=.int i/\SqL K H p xs/\atI xs i=some v/\Q v H
noncomputable def Zm9 (K:W.Frag):R2:=fun x y H Q=>∃p xs i v,x=.ref p/\y=.int i/\SqT K H p xs/\atI xs i=some v/\Q v H
noncomputable def ZmA:R2:=fun x y H Q=>∃z i c,x=.str z/\y=.int i/\z.length<=sizeLine/\atI z.cps.toList i=some c/\Q (.str ⟨#[c]⟩) H
theorem Zjy:IxR X (Zk2 X.K):=by
 intro value slice pins s σ H x y v u Q I rx ry h hs
 obtain⟨p,xs,i,z,rfl,rfl,hq,he,q⟩:=h
 cases rx
 obtain⟨t,rfl⟩:=ry
 obtain⟨its,r,pl,hz⟩:=I.list hq
 obtain⟨j,h1,h2,h3,h4,h5⟩:=ZaO he
 obtain⟨w,ew,rw'⟩:=r.get h2
 have hl:=r.length
 have hn:=Qx
 have fin:EP X pins σ Q w s:=⟨z,H,I,rw',q⟩
 by_cases h0:0<=i
 ·have hj:i.toNat=j:=by
   rw[seqIndex_of h0 h5] at h1
   exact Option.some.inj h1
  exact item_listR pl.isList h0 (by omega) (by rw[hj];simpa using ew) fin hs
 ·have hj:(i+(its.toArray.size:Int)).toNat=j:=by
   rw[seqIndex_neg (by omega) h4] at h1
   rw[ZtL,<- hl]
   exact Option.some.inj h1
  exact subscriptTail_builtinR (x:=w) pl.isList.typeIs slot_list_getitem.lookup
   (wpAny_getItem_list_neg (Q:=fun r s'=>r=w/\EP X pins σ Q r s') pl.isList (by omega) (by rw[ZtL]<;>omega) (by omega) (by rw[hj];simpa using ew) ⟨rfl,fin⟩) hs
theorem ZkU:IxR X (Zm9 X.K):=by
 intro value slice pins s σ H x y v u Q I rx ry h hs
 obtain⟨p,xs,i,z,rfl,rfl,hq,he,q⟩:=h
 cases rx
 obtain⟨t,rfl⟩:=ry
 obtain⟨its,r,pl,hz⟩:=I.tuple hq
 obtain⟨j,h1,h2,h3,h4,h5⟩:=ZaO he
 obtain⟨w,ew,rw'⟩:=r.get h2
 have hl:=r.length
 have hn:=Qx
 have fin:EP X pins σ Q w s:=⟨z,H,I,rw',q⟩
 exact subscriptTail_builtinR (x:=w) pl.typeIs slot_tuple_getitem.lookup
  (getItem_tuple (j:=j) (Q:=fun r s'=>r=w/\EP X pins σ Q r s') pl (by omega) (by omega) (by rw[ZtL,<- hl];exact h1) (by simpa using ew) ⟨rfl,fin⟩) hs
theorem ZkV:IxR X ZmA:=by
 intro value slice pins s σ H x y v u Q I rx ry h hs
 obtain⟨z,i,c,rfl,rfl,hz,he,q⟩:=h
 obtain⟨t,rfl⟩:=rx
 obtain⟨t',rfl⟩:=ry
 obtain⟨j,h1,h2,h3,h4,h5⟩:=ZaO he
 have hl:z.cps.toList.length=z.length:=by simp[Str.length]
 rw[hl] at h1 h4 h5
 have hn:=Qx
 exact tail_any (typeIs_str s z t) slot_str_getitem.lookup (getItem_str (c:=c) (by
  have e1:decide (i < -(2^63:Int))=false:=decide_eq_false (by omega)
  have e2:decide (i ≥ 2^63)=false:=decide_eq_false (by omega)
  rw[e1,e2,Bool.or_false]) (by rw[h1];simpa using h2) ⟨.str ⟨#[c]⟩,H,I.tok _,⟨_,rfl⟩,q⟩) hs
noncomputable def rIx (K:W.Frag):R2:=fun x y H Q=>Zk2 K x y H Q\/Zm9 K x y H Q\/ZmA x y H Q
theorem ZkW:IxR X (rIx X.K):=Zjy.or (ZkU.or ZkV)
theorem Zeb (its:List Value) (n j:Nat) (u:Value):Obj.mapSeq (·.setIfInBounds j u) { cls:=.type "list",data:=.seq its.toArray n }={ cls:=.type "list",data:=.seq (its.set j u).toArray n }:=by
 simp[Obj.mapSeq]
theorem Inv.lst {pins:List (Addr×Obj)}{σ:St}{H:Hp}{s:Shared}{p:Addr}{xs:List V} (I:Inv X pins σ H s) (h:H p=some (.lst xs)) :
  ∃(its:List Value) (n:Nat),Jb xs its/\s.heap.get? p=some { cls:=.type "list",data:=.seq its.toArray n }/\xs.length<=sizeLine:=by
 obtain⟨z,its,n,r,e⟩:=I.hok p _ h
 exact⟨its,n,r,e,z⟩
theorem Inv.lstUpd {pins:List (Addr×Obj)}{σ:St}{H:Hp}{s:Shared}{p:Addr}{xs ys:List V}{its its':List Value}{n n':Nat}{f:Obj->Obj} (I:Inv X pins σ H s) (h:H p=some (.lst xs))
  (ho:s.heap.get? p=some { cls:=.type "list",data:=.seq its.toArray n }) (hf:f { cls:=.type "list",data:=.seq its.toArray n }={ cls:=.type "list",data:=.seq its'.toArray n' }) (r:Jb ys its') (hz:ys.length<=sizeLine) (t:Nat) :
  Inv X pins σ (upd H p (.lst ys)) { s with heap:=s.heap.update p f,toks:=t }:=by
 have e:(s.heap.update p f).get? p=some { cls:=.type "list",data:=.seq its'.toArray n' }:=by
  rw[Heap.get?_update_self f ho (by rw[hf]<;>rfl),hf]
 refine I.write (x:=p) (e:=p) (by rw[h];trivial) (.inl rfl) (fun b u hb q=>(Heap.get?_update_other _ _ (Ne.symm hb)).trans q) ⟨_,e⟩ ?_
 exact⟨hz,its',n',r,e⟩
def ZgY:V->V->V->Hp->(Hp->Prop)->Prop:=fun o i v H Q=>∃p xs k j,o=.ref p/\i=.int k/\H p=some (.lst xs)/\ixN xs.length k=some j/\Q (upd H p (.lst (xs.set j v)))
theorem JN:Zmx X ZgY:=by
 intro pins s σ H o i v ov iv u Q I ro ri rv h
 obtain⟨p,xs,k,j,rfl,rfl,hp,hj,q⟩:=h
 cases ro
 obtain⟨t,rfl⟩:=ri
 obtain⟨its,n,r,ho,hz⟩:=I.lst hp
 obtain⟨h1,h2,h3,h4⟩:=U4 hj
 have hl:=r.length
 have hn:=Qx
 have I':Inv X pins σ (upd H p (.lst (xs.set j v))) { s with heap:=s.heap.update p (Obj.mapSeq (·.setIfInBounds j u)) }:=
  I.lstUpd hp ho (Zeb its n j u) (r.set rv j) (by rw[ZuM];exact hz) s.toks
 by_cases h0:0<=k
 ·have hk:k.toNat=j:=by
   rw[seqIndex_of h0 h4] at h1
   exact Option.some.inj h1
  exact PySem.W.ki_setAt ho h0 (by omega) (by rw[ZtL,<- hl];exact h4) (by rw[hk];exact⟨_,I',q⟩)
 ·have hk:(k+(its.toArray.size:Int)).toNat=j:=by
   rw[seqIndex_neg (by omega) h3] at h1
   rw[ZtL,<- hl]
   exact Option.some.inj h1
  exact PySem.W.ki_setBack ho (by omega) (by rw[ZtL,<- hl];exact h3) (by omega) (by rw[hk];exact⟨_,I',q⟩)
theorem Zba (lo hi:Option Int) (n:Nat):(sliceBounds lo hi none n).1=((HT.sIx n 0 lo:Nat):Int)/\(sliceBounds lo hi none n).2.1=((HT.sIx n n hi:Nat):Int)/\(sliceBounds lo hi none n).2.2=1:=by
 refine⟨?_, ?_,rfl⟩
 ·cases lo with
  |none=>simp[sliceBounds,HT.sIx]
  |some i =>
   simp only[sliceBounds,HT.sIx,Option.getD_none,show (1:Int)>0 by decide,if_true]
   by_cases h:i<0
   ·simp only[h,if_true]<;>omega
   ·simp only[h,if_false]<;>omega
 ·cases hi with
  |none=>simp[sliceBounds,HT.sIx]
  |some i =>
   simp only[sliceBounds,HT.sIx,Option.getD_none,show (1:Int)>0 by decide,if_true]
   by_cases h:i<0
   ·simp only[h,if_true]<;>omega
   ·simp only[h,if_false]<;>omega
theorem Zap (its:List Value) (lo hi:Option Int):slicePick its.toArray lo hi none=((its.drop (HT.sIx its.length 0 lo)).take (HT.sIx its.length its.length hi-HT.sIx its.length 0 lo)).toArray:=by
 obtain⟨h1,h2,h3⟩:=Zba lo hi its.toArray.size
 unfold slicePick
 rw[h1,h2,h3]
 simp only[sliceRange_one,pick_run,ZtL]<;>rfl
def ZlU (K:W.Frag):V->Option Int->Option Int->Hp->VK->Prop:=fun x lo hi H Q=>∃a xs,x=.ref a/\SqL K H a xs/\∀p,H p=none->Q (.ref p) (upd H p (.lst (Zkb xs lo hi)))
theorem ZiQ:SlR X (ZlU X.K):=by
 intro pins s σ H x v vl vu lo hi sl Q I rx hs pl pu h
 obtain⟨a,xs,rfl,hx,q⟩:=h
 cases rx
 obtain⟨its,r,ht,hz⟩:=I.list hx
 have hlen:=r.length
 refine⟨"list",_,slot_list_getitem.lookup,ht.isList.typeIs, ?_⟩
 refine wpAny_getItem_list_slice ht.isList hs pl pu .none (by simp) ?_ (by rw[ZtL]<;>omega)
 rw[Zap,<- hlen]
 refine⟨.ref s.heap.objs.size,_,I.laid (t':=s.toks) (o:=.lst (Zkb xs lo hi)) (fun b ob q=>Heap.get?_push_of_some _ q) (ZtE _) ?_,rfl,q _ (I.hok.fresh (ZtE _))⟩
 exact⟨ZtV (Zc0 xs lo hi) hz,_,0,(r.drop (HT.sIx xs.length 0 lo)).take (HT.sIx xs.length xs.length hi-HT.sIx xs.length 0 lo),Heap.get?_push_size _ rfl⟩
theorem ZbG:JX X (.builtin "len") (fun xs H Q=>∃p ys,xs=[.ref p]/\(SqL X.K H p ys\/SqT X.K H p ys)/\Q (.int ys.length) H):=by
 intro pins s σ H xs us Q I r h
 obtain⟨p,ys,rfl,hq,q⟩:=h
 obtain⟨u,rfl,rx⟩:=QE r
 cases rx
 have hn:=Qx
 rcases hq with hq|hq
 ·obtain⟨its,r',pl,hz⟩:=I.list hq
  have hlen:=r'.length
  exact Calls.call_len_list pl.isList (by simp only[ZtL]<;>omega) ⟨.int ys.length,H,I.tok _,⟨s.toks+1,by rw[ZtL,hlen]⟩,q⟩
 ·obtain⟨its,r',pl,hz⟩:=I.tuple hq
  have hlen:=r'.length
  exact len_tuple pl (by simp only[ZtL]<;>omega) ⟨.int ys.length,H,I.tok _,⟨s.toks+1,by rw[ZtL,hlen]⟩,q⟩
theorem ZbF:JX X (.type "list") (fun xs H Q=>∃p ys,xs=[.ref p]/\(SqL X.K H p ys\/SqT X.K H p ys)/\∀l,H l=none->Q (.ref l) (upd H l (.lst ys))):=by
 intro pins s σ H xs us Q I r h
 obtain⟨p,ys,rfl,hq,q⟩:=h
 obtain⟨u,rfl,rx⟩:=QE r
 cases rx
 have fin:∀(its:List Value),Jb ys its->ys.length<=sizeLine->∀(h':Heap) (c':Nat),(∀b o',s.heap.get? b=some o'->h'.get? b=some o') ->
   h'.get? s.heap.objs.size=some { cls:=.type "list",dict:=none,data:=.seq its.toArray c',slots:=#[] }->EP X pins σ Q (.ref s.heap.objs.size) { s with heap:=h' }:=fun its r' hz h' c' kp e =>
  ⟨.ref s.heap.objs.size,_,I.laid (t':=s.toks) kp (ZtE _) (show JA X.prog X.w _ h' _ (.lst ys) from ⟨hz,its,c',r',e⟩),rfl,q _ (I.hok.fresh (ZtE _))⟩
 rcases hq with hq|hq
 ·obtain⟨its,r',pl,hz⟩:=I.list hq
  have hlen:=r'.length
  obtain⟨o,ho,hc,n,hd⟩:=pl.isList
  exact call_list_seq p (.inl rfl) ho hc hd (fun h' c' kp e=>fin its r' hz h' c' kp e) (by simp only[ZtL]<;>omega)
 ·obtain⟨its,r',pl,hz⟩:=I.tuple hq
  have hlen:=r'.length
  obtain⟨o,ho,hc,n,hd⟩:=pl
  exact call_list_seq p (.inr rfl) ho hc hd (fun h' c' kp e=>fin its r' hz h' c' kp e) (by simp only[ZtL]<;>omega)
theorem ZaJ:JX X (.type "tuple") (fun xs H Q=>∃p ys,xs=[.ref p]/\((SqL X.K H p ys/\∀l,H l=none->Q (.ref l) (upd H l (.tup ys)))\/(SqT X.K H p ys/\Q (.ref p) H))):=by
 intro pins s σ H xs us Q I r h
 obtain⟨p,ys,rfl,h⟩:=h
 obtain⟨u,rfl,rx⟩:=QE r
 cases rx
 rcases h with ⟨hq,q⟩|⟨hq,q⟩
 ·obtain⟨its,r',pl,hz⟩:=I.list hq
  have hlen:=r'.length
  refine call_tuple_list pl.isList (fun h' kp=>?_) (by simp only[ZtL]<;>omega)
  have I1:Inv X pins σ H { s with heap:=h' }:=I.kept (t':=s.toks) kp
  have I2:Inv X pins σ (upd H h'.objs.size (.tup ys)) { s with heap:=h'.push { cls:=.type "tuple",data:=.seq its.toArray } }:=
   I1.laid (t':=s.toks) (fun b o e=>Heap.get?_push_of_some _ e) (ZtE _) (show JA X.prog X.w _ _ _ (.tup ys) from ⟨hz,its,r',IsTup.new _ _⟩)
  exact⟨.ref h'.objs.size,_,I2,rfl,q _ (I1.hok.fresh (ZtE _))⟩
 ·obtain⟨its,r',pl,hz⟩:=I.tuple hq
  exact call_tuple_same pl ⟨.ref p,H,I,rfl,q⟩
def tyV (K:W.Frag) (T:String) (x:V) (H:Hp):Prop:=match x with
 |.str _=>T = "str"
 |.int _=>T = "int"
 |.ref p=>(T = "list"/\∃xs,SqL K H p xs)\/(T = "tuple"/\∃o,K.lookup p=some o/\o.cls=.type "tuple"/\o.dict=none) \/
   (T = "dict"/\((∃kvs,H p=some (.dK kvs))\/∃kvs,H p=some (.dT kvs)))\/(T = "set"/\∃S n,H p=some (.set S n))
 |_=>False
theorem ZhS {pins:List (Addr×Obj)}{σ:St}{H:Hp}{s:Shared}{T:String}{x:V}{v:Value} (I:Inv X pins σ H s) (r:Jt x v) (ty:tyV X.K T x H) :
  s.TypeIs v T/\∀a,v=.ref a->∃ob,s.heap.get? a=some ob/\ob.dict=none:=by
 cases x with
 |str z =>
  obtain⟨t,rfl⟩:=r
  cases (show T = "str" from ty)
  exact⟨typeIs_str s z t,fun _ e=>nomatch e⟩
 |int i =>
  obtain⟨t,rfl⟩:=r
  cases (show T = "int" from ty)
  exact⟨typeIs_int s i t,fun _ e=>nomatch e⟩
 |ref p =>
  cases r
  rcases ty with ⟨rfl,xs,hq⟩|⟨rfl,o,hk,hc,hd⟩|⟨rfl,hk⟩|⟨rfl,S,n,hk⟩
  ·obtain⟨its,_,pl,_⟩:=I.list hq
   refine⟨pl.isList.typeIs,fun a e=>?_⟩
   cases e
   obtain⟨o,n,e,c,hd,_⟩:=pl
   exact⟨o,e,hd⟩
  ·refine⟨⟨o,I.kIn p o hk,hc⟩,fun a e=>?_⟩
   cases e
   exact⟨o,I.kIn _ o hk,hd⟩
  ·have z:∃o,s.heap.get? p=some o/\o.ExactDict:=by
    rcases hk with ⟨kvs,hk⟩|⟨kvs,hk⟩
    ·obtain⟨_,_,_,_,o,_,_,e,ex,_⟩:=I.hok p _ hk
     exact⟨o,e,ex⟩
    ·obtain⟨_,_,_,_,o,_,_,e,ex,_⟩:=I.hok p _ hk
     exact⟨o,e,ex⟩
   obtain⟨o,e,ex⟩:=z
   refine⟨⟨o,e,ex.1⟩,fun a e2=>?_⟩
   cases e2
   exact⟨o,e,ex.2.1⟩
  ·obtain⟨o,_,_,_,e,ex,_⟩:=I.hok p _ hk
   refine⟨⟨o,e,ex.1⟩,fun a e2=>?_⟩
   cases e2
   exact⟨o,e,ex.2.1⟩
 |_=>exact False.elim ty
noncomputable def ZmX (K:W.Frag) (T:String) (r:V->List V->Hp->VK->Prop) (to:TE):TE:=fun σ H Q=>to σ H fun x H1=>tyV K T x H1/\r x [] H1 Q
noncomputable def tBM (K:W.Frag) (T:String) (r:V->List V->Hp->VK->Prop) (to:TE) (t:TA):TE:=fun σ H Q=>to σ H fun x H1=>tyV K T x H1/\t σ H1 fun xs H2=>r x xs H2 Q
variable {o e:Expr}{es:List Expr}{to:TE}{t:TA}{name:Str}{apos cpos:Pos}{T id:String}{r:V->List V->Hp->VK->Prop}
theorem Zk7 (pa:PlainAttrs T) (slot:Slot T name id) (hty:typeOf (.builtin id)=pure (.type "method_descriptor")) (hm:MtR X id r) (ho:PE X o to)
  (hbase:attributeBase o name X.env (eval o X.env)=eval o X.env:=by rfl) (hline:(apos.endLine==cpos.line)=true:=by rfl):PE X (.Call (.Attribute o name apos) [] [] cpos) (ZmX X.K T r to):=by
 intro pins s σ H Q I h
 refine wpAny_Call_method0_late hbase hline (thn (ho pins s σ H _ I h) fun v s1 ⟨x,H1,I1,r1,ty,q1⟩=>?_)
 obtain⟨h1,h2⟩:=ZhS I1 r1 ty
 exact⟨T,id,pa,slot,hty,h1,h2,Calls.callWith_builtin rfl (PySem.evalArgs_none (hm pins s1 σ H1 x [] v [] Q I1 r1 .nil q1))⟩
theorem ZdS (pa:PlainAttrs T) (slot:Slot T name id) (hty:typeOf (.builtin id)=pure (.type "method_descriptor")) (hm:MtR X id r) (ho:PE X o to) (ha:PA X (e::es) t)
  (hbase:attributeBase o name X.env (eval o X.env)=eval o X.env:=by rfl)
  (hfew:((backTo cpos (starEach (e::es) X.env)).all (fun x=>!x.1)&&(backToKw cpos (keywordEach [] X.env)).all (fun x=>x.1.isSome)
   && decide ((e::es).length+([]:List Keyword).length+(if ([]:List Keyword).isEmpty then 0 else 1)<30))=true:=by rfl)
  (hline:(apos.endLine==cpos.line)=true:=by rfl) (hs:starEach (e::es) X.env=(false,eval e X.env)::starEach es X.env:=by rfl) (hplain:(backTo cpos (starEach es X.env)).any (·.1)=false:=by rfl) :
  PE X (.Call (.Attribute o name apos) (e::es) [] cpos) (tBM X.K T r to t):=by
 intro pins s σ H Q I h
 refine wpAny_Call_method_late hbase hfew hline rfl (thn (ho pins s σ H _ I h) fun v s1 ⟨x,H1,I1,r1,ty,q1⟩=>?_)
 obtain⟨h1,h2⟩:=ZhS I1 r1 ty
 refine⟨T,id,pa,slot,hty,h1,h2, ?_⟩
 have hA:=ha cpos pins s1 σ H1 _ I1 q1
 rw[hs] at hA ⊢
 refine Calls.callWith_builtin (by show (false || (backTo cpos (starEach es X.env)).any (·.1))=false;rw[hplain]<;>rfl) (Calls.evalArgs_plain ?_)
 exact thn hA fun us s2 ⟨vs,H2,I2,r2,q2⟩=>hm pins s2 σ H2 x vs v us Q I2 r1 r2 q2
end
def MtM (X:Cx) (id:String) (r:V->List V->Hp->VK->Prop):Prop:=
 ∀(pins:List (Addr×Obj)) (s:Shared) (σ:St) (H:Hp) (x:V) (xs:List V) (v:Value) (us:List Value) (Q:VK),Inv X pins σ H s->Jt x v->Jb xs us->r x xs H Q ->
  wpAny (model X.prog X.w) X.A (call (.builtin id) (v::us)) (EP X pins σ Q) X.xe s
theorem Jb.one:∀{x:V}{us:List Value},Jb [x] us->∃u,us=[u]/\Jt x u
 |_,_,.cons r .nil=>⟨_,rfl,r⟩
theorem Jb.zero:∀{us:List Value},Jb [] us->us=[]
 |_,.nil=>rfl
theorem Jb.reverse {xs:List V}{us:List Value} (h:Jb xs us):Jb xs.reverse us.reverse:=by
 induction h with
 |nil=>exact .nil
 |cons r t ih=>rw[ZuP,ZuP];exact Jb.append ih (.cons r .nil)
section
variable {X:Cx}{pins:List (Addr×Obj)}{σ:St}{H:Hp}{s:Shared}{l:Addr}{xs ys:List V}
theorem Inv.lset {its its':List Value}{n:Nat}{f:Array Value->Array Value}{t':Nat} (I:Inv X pins σ H s) (hH:H l=some (.lst xs))
  (e:s.heap.get? l=some { cls:=.type "list",data:=.seq its.toArray n }) (hf:f its.toArray=its'.toArray) (hv:Jb ys its') (hz:ys.length<=sizeLine) :
  Inv X pins σ (upd H l (.lst ys)) { s with heap:=s.heap.update l (Obj.mapSeq f),toks:=t' }:=by
 have q:=PySem.IsL.update e f
 rw[hf] at q
 refine I.write (x:=l) (e:=l) (by rw[hH];exact trivial) (.inl rfl) (fun b' u hb hu=>(Heap.get?_update_other s.heap (Obj.mapSeq f) (Ne.symm hb)).trans hu) ⟨_,q⟩ ?_
 exact⟨hz,its',_,hv,q⟩
theorem Inv.lstM (I:Inv X pins σ H s) (hH:H l=some (.lst xs)):xs.length<=sizeLine/\∃(its:List Value) (n:Nat),Jb xs its/\xs.length=its.length/\s.heap.get? l=some { cls:=.type "list",data:=.seq its.toArray n }:=by
 obtain⟨z,its,n,r,e⟩:=I.hok l _ hH
 exact⟨z,its,n,r,r.length,e⟩
end
section
variable {X:Cx}
def Zas:V->List V->Hp->VK->Prop:=fun x vs H Q=>∃l xs y,x=.ref l/\vs=[y]/\H l=some (.lst xs)/\xs.length<sizeLine/\Q .non (upd H l (.lst (xs++[y])))
theorem Vb:MtM X "list.append" Zas:=by
 intro pins s σ H x vs v us Q I rx rv h
 obtain⟨l,xs,y,rfl,rfl,hH,hz,q⟩:=h
 cases rx
 obtain⟨u,rfl,ru⟩:=rv.one
 obtain⟨z,its,n,r,hl,e⟩:=I.lstM hH
 refine call_meets F.slot_list_append ⟨_,e,rfl⟩ F.entry_list_append (F.args_list_append_2 _ _) (PySem.list_append l its.toArray n u (by rw[ZtL];omega)) ⟨e, ?_⟩
 refine⟨.non,_,I.lset (its':=its++[u]) hH e (by simp) (r.append (.cons ru .nil)) ?_,rfl,q⟩
 rw[Zus,List.length_singleton]
 omega
def ZcZ:V->List V->Hp->VK->Prop:=fun x vs H Q=>∃l xs,x=.ref l/\vs=[]/\H l=some (.lst xs)/\Q .non (upd H l (.lst xs.reverse))
theorem ZdZ:MtM X "list.reverse" ZcZ:=by
 intro pins s σ H x vs v us Q I rx rv h
 obtain⟨l,xs,rfl,rfl,hH,q⟩:=h
 cases rx
 have hus:=rv.zero
 subst hus
 obtain⟨z,its,n,r,hl,e⟩:=I.lstM hH
 refine call_meets F.slot_list_reverse ⟨_,e,rfl⟩ F.entry_list_reverse (F.args_list_reverse_1 _) (AutoSeq1.list_reverse_list_0 l its.toArray n (by rw[ZtL];omega)) ⟨e, ?_⟩
 refine⟨.non,_,I.lset (its':=its.reverse) hH e (by simp) r.reverse ?_,rfl,q⟩
 rw[List.length_reverse]
 omega
end
section
set_option maxRecDepth 100000 in
end
section
end
end L2
namespace Att
open PySem PySem.W PySem.Calls PyProof.Rows
theorem Q1 {P:Params}{h:Heap}:∀(ns:List Int) (vs:List Value),WellAll P h vs (ns.map WData.int)->IntsAre vs ns:=by
 intro ns
 induction ns with
 |nil =>
  intro vs w
  rw[ZuY] at w
  cases w
  exact .nil
 |cons n ns ih =>
  intro vs w
  rw[ZtP] at w
  cases w with
  |cons a b =>
   cases a
   exact .cons _ _ (ih _ b)
theorem ZeK {l:OpenLaw}{n:Nat} (hn:l.most=some n) {P:Params}{h:Heap}{args:List WData}{vals:List Value}
  (hpre:l.row.toRowW.claim.pre args=true) (hwl:WellAll P h vals args) :
  ∃a vs ns,vals=[Value.ref a]/\args=[WData.list (ns.map WData.int)]/\h.get? a=some { cls:=.type "list",data:=.seq vs.toArray }/\IntsAre vs ns/\ns.length<=n:=by
 have hsh:WShape.hasAll [] args [.list .int]=true:=(pre_splitW hpre).1
 have hc:l.pre.holds [] { args:=args }=true:=(pre_splitW hpre).2
 obtain⟨d,r,rfl,h1,h2⟩:=hasAllW_cons hsh
 obtain rfl:=hasAllW_nil h2
 obtain⟨xs,rfl,h3⟩:=hasW_list h1
 obtain⟨ns,rfl⟩:=items_int h3
 have hlen:ns.length<=n:=by
  unfold OpenLaw.pre at hc
  have h4:(WTm.not (.lt (.lit (.int (n:Int))) (.len (.arg 0)))).holds [] { args:=[.list (ns.map .int)] }=true:=by
   have h4:=(holds_andW hc).1
   rw[hn] at h4
   exact h4
  have h5:=condW_of h4 (w_not (w_lt w_lit (w_len_list (w_arg rfl))))
  rw[ZtG] at h5
  refine Nat.le_of_not_lt fun q=>?_
  have q':(n:Int)<((ns.length:Nat):Int):=by omega
  first
   |(rw[decide_eq_true q'] at h5;exact absurd h5 (by decide))
   |(simp at h5;omega)
 cases hwl with
 |cons w1 w2 =>
  cases w2
  cases w1 with
  |list ho hall=>exact⟨_,_,ns,rfl,rfl,ho,Q1 ns _ hall,hlen⟩
theorem ZeU (l:OpenLaw) (args:List WData):l.row.toRowW.claim.post args (.bool true) args=true:=
 postW_of (r:=l.row.toRowW) (X:=(true==true))
  (show WShape.has [] (.bool true) .bool=true by first|rfl|decide|simp[WShape.has,WShape.arms,WShape.armsAll])
  (show (WTm.eq .res (.lit (.bool true))).value [] { args:=args,res:=some (.bool true),after:=args }=some (.bool (true==true)) from w_eq_bool (w_res rfl) w_lit) rfl
theorem Zc7 {l:OpenLaw}{n:Nat}{q:Program}{loose:List Str}{XP:(Str->Option Value)->Heap->Prop}{YP:World->Heap->Prop}{d:DefRec}
  (hn:l.most=some n) (hdf:d.params.defaults=[])
  (call:∀(w:World) (s₀ s₁:Shared) (mg mb:Str->Option Value) (fa:Addr) (o:Obj) (pm cd doc:Value) (a:Addr) (vs:List Value) (ns:List Int),
   Ground q loose [] XP w s₀ mg mb s₁.heap->YP w s₁.heap ->
   s₁.heap.get? fa=some o->o.data=.func (docDef d.name d.params d.body d.scope pm cd doc)->s₁.heap.CodeRec cd d.name->mg d.name=some (.ref fa) ->
   s₁.heap.get? a=some { cls:=.type "list",data:=.seq vs.toArray }->IntsAre vs ns->ns.length<=n->s₁.gens=#[] ->
   codeAny (model l.prog w) callerA (.call (.ref fa) ⟨[.ref a],[]⟩) (fun r s'=>r=.ok (.ret (.bool true))/\OldK s₁.heap s'.heap/\s'.os=s₁.os/\AllBare s'.gens) s₁) :
  WalkO q loose XP YP l.row.toRowW d [] (fun f vs=>PySem.call f vs):=by
 intro w s₀ s₁ mg mb G Y fa o pm cd doc dV kV ho hd hcd hD hmg hg args vals as hpre hlay hrd hwl hlo
 obtain rfl:dV=.none:=Dflts.none hD hdf
 obtain rfl:kV=.none:=Dflts.noKw hD
 obtain⟨a,vs,ns,rfl,rfl,hobj,hints,hlen⟩:=ZeK hn hpre hwl
 refine enter_call (codeAny_mono (call w s₀ s₁ mg mb fa o pm cd doc a vs ns G Y ho (fd_plain hd) hcd hmg hobj hints hlen hg) fun r s' hq=>?_)
 obtain⟨rfl,h2,h3,h4⟩:=hq
 exact⟨.inl ⟨.bool true,.bool true,[],rfl,fun _=>rfl,.bool true,ZeU l _,fun _=>⟨List.Pairwise.nil,fun _ hm=>(nomatch hm)⟩⟩,h2,h3,h4⟩
section
end
end Att
namespace L2
open PySem PySem.Spec PyProof.Rows
theorem ZaU:∀{vs:List Value}{ns:List Int},IntsAre vs ns->Jb (ns.map V.int) vs
 |_,_,.nil=>.nil
 |_,_,.cons n t h=>.cons ⟨t,rfl⟩ (ZaU h)
def Zl7 (H:Hp):Prop:=∀b,H b=none\/∃o xs,H b=some (.frz o (.lst xs))
theorem Zhz {P:Program}{w:World}{K:W.Frag}{mg mb:Str->Option Value}{CX:CXT}{k:Nat}{fa a:Addr}{fd:FuncData}{x:Str}{sp:Sp}{s₁:Shared}{vs:List Value}{ns:List Int}
  (KX:K.In s₁.heap) (hns:s₁.heap.Ns mainGlobals mg) (hb:s₁.heap.Ns builtinsNs mb) (hbb:∀x:Str,x ≠ "__name__"->mb x=bootBuiltins x) (hlim:s₁.heap.NoLimit) (hg:s₁.gens=#[])
  (ha:s₁.heap.get? a=some { cls:=.type "list",data:=.seq vs.toArray }) (hi:IntsAre vs ns) (hl:ns.length<=sizeLine) (hr:UH k callerA)
  (F:∀base:Heap,K.In base->base.Ns mainGlobals mg->JB P w K mg base CX k fa fd [x] sp) (hbind:∀(s:Shared) (u:Value),BindsTo s fd ⟨[u],[]⟩ [(x,u)])
  (hsp:∀H:Hp,Zl7 H->SqL K H a (ns.map V.int)->sp [.ref a] H (fun v _=>v=.bl true) fun _ _ _=>False)
  (hCX:∀H e s',CX [] H s₁ (fun _ _ _=>False) e s'->False) :
  codeAny (model P w) callerA (.call (.ref fa) ⟨[.ref a],[]⟩) (fun r s'=>r=.ok (.ret (.bool true))/\OldK s₁.heap s'.heap/\s'.os=s₁.os/\AllBare s'.gens) s₁:=by
 have rv:=ZaU hi
 have lenV:=hi.length
 have core:∀H:Hp,Zl7 H->SqL K H a (ns.map V.int)->HOk P w H s₁.heap->(∀b,H b≠none->b=a)->(H a≠none->K.lookup a=none) ->
   codeAny (model P w) callerA (.call (.ref fa) ⟨[.ref a],[]⟩) (fun r s'=>r=.ok (.ret (.bool true))/\OldK s₁.heap s'.heap/\s'.os=s₁.os/\AllBare s'.gens) s₁:=by
  intro H hO hS hok hA hK
  have base_of:∀{b:Addr}{o:Obj},s₁.heap.get? b=some o->H b=none->(Zh4 s₁.heap H).get? b=some o:=fun e n=>Zh3 e n
  have noA:∀{b:Addr}{o:Obj}{es:Array DictEntry}{ep:Nat},s₁.heap.get? b=some o->o.data=.dict es ep->H b=none:=fun {b o es ep} e d=>by
   cases q:H b with
   |none=>rfl
   |some u =>
    have e':b=a:=hA b (by rw[q];simp)
    subst e'
    rw[ha] at e;cases e
    have d':Data.seq vs.toArray _=Data.dict es ep:=d
    cases d'
  have nsK:∀{b:Addr}{m:Str->Option Value},s₁.heap.Ns b m->(Zh4 s₁.heap H).Ns b m:=fun {b m} ⟨o,es,ep,e,d,r⟩=>⟨o,es,ep,base_of e (noA e d),d,r⟩
  have hKb:K.In (Zh4 s₁.heap H):=fun b o e=>base_of (KX b o e) (by
   cases q:H b with
   |none=>rfl
   |some u =>
    have e':b=a:=hA b (by rw[q];simp)
    subst e'
    rw[hK (by rw[q];simp)] at e;cases e)
  have hM:Mod K mg (Zh4 s₁.heap H):=⟨hKb,nsK hns,⟨mb,nsK hb,hbb⟩,let ⟨mc,h1,h2⟩:=hlim;⟨mc,nsK h1,h2⟩⟩
  have e0:ZlM P w K mg (Zh4 s₁.heap H) callerA [] s₁ H:=⟨rfl,hM,fun b o e=>Zjm e,Nat.le_of_eq (ZfG _ _),trivial,fun b hb=>absurd (show b∈([]:List Addr) from hb) (by simp),hok,.of_eq hg⟩
  refine codeAny_mono ((F _ hKb (nsK hns)).run callerA [] s₁ H ⟨[.ref a],[]⟩ [.ref a] [.ref a] _ _ hr e0 (hbind s₁ (.ref a)) (.cons rfl .nil) (hsp H hO hS)) fun r s' h=>?_
  cases r with
  |error e=>exact(hCX H e s' h).elim
  |ok fl =>
   cases fl with
   |next=>exact False.elim h
   |brk=>exact False.elim h
   |cont=>exact False.elim h
   |ret u =>
    obtain⟨v,H',os,bare,un,hok',r',q⟩:=h
    have q':v=.bl true:=q
    subst q'
    obtain rfl:u=Value.bool true:=r'
    refine⟨rfl,OldK.of_keep fun b o e=>?_,os,bare⟩
    cases q:H b with
    |none=>exact un.keep b o e q (by intro z;exact absurd (show b∈([]:List Addr) from z) (by simp)) (by simp)
    |some u =>
     rcases hO b with z|⟨ob,xs,z⟩
     ·rw[q] at z;cases z
     ·have z2:=un.frzs b ob _ z
      obtain⟨e1,_⟩:=hok b _ z
      obtain⟨e2,_⟩:=hok' b _ z2
      rw[e] at e1;cases e1
      exact e2
 cases hk:K.lookup a with
 |some o =>
  have e:=KX a o hk
  rw[ha] at e
  cases e
  refine core (fun _=>none) (fun _=>.inl rfl) (.inr ⟨_,vs.toArray,_,hk,rfl,rfl,rfl,by rw[ZtL,lenV];exact hl,by simpa using rv⟩) (fun b u z=>by have z':(none:Option HO)=some u:=z;cases z') (fun b z=>absurd rfl z) fun z=>absurd rfl z
 |none =>
  refine core (fun b=>if b=a then some (.frz { cls:=.type "list",data:=.seq vs.toArray } (.lst (ns.map V.int))) else none) (fun b=>?_) (.inl (.inr ⟨{ cls:=.type "list",data:=.seq vs.toArray },if_pos rfl⟩)) (fun b u z=>?_) (fun b z=>?_) fun _=>hk
  ·by_cases hb:b=a
   ·exact .inr ⟨_,_,if_pos hb⟩
   ·exact .inl (if_neg hb)
  ·by_cases hb:b=a
   ·have z':=(if_pos hb).symm.trans z
    cases z'
    subst hb
    exact⟨ha,by rw[ZtG];exact hl,vs,_,rv,ha⟩
   ·have z':=(if_neg hb).symm.trans z
    cases z'
  ·by_cases hb:b=a
   ·exact hb
   ·exact absurd (if_neg hb) z
noncomputable abbrev KOf {K:W.Frag}{h:Heap} (_:K.In h):W.Frag:=K
theorem ZiF {l:PySem.W.OpenLaw}{n k:Nat}{q:Program}{loose:List Str}{XP:(Str->Option Value)->Heap->Prop}{YP:World->Heap->Prop}{d:DefRec}{K:Params->W.Frag}{CX:World->CXT}{sp:World->Sp}{x:Str}
  (hn:l.most=some n) (hn2:n<=sizeLine) (hdf:d.params.defaults=[]) (hr:UH k callerA)
  (hY:∀(w:World) (h:Heap),YP w h->(K w.params).In h)
  (F:∀(w:World) (mg:Str->Option Value) (fa:Addr) (h:Heap),(K w.params).In h->h.Ns mainGlobals mg->mg d.name=some (.ref fa) ->
   ∃fd:FuncData,(∀(s:Shared) (u:Value),BindsTo s fd ⟨[u],[]⟩ [(x,u)]) /\
    ∀base:Heap,(K w.params).In base->base.Ns mainGlobals mg->JB l.prog w (K w.params) mg base (CX w) k fa fd [x] (sp w))
  (hsp:∀(w:World) (H:Hp) (a:Addr) (ns:List Int),ns.length<=n->Zl7 H->SqL (K w.params) H a (ns.map V.int)->sp w [.ref a] H (fun v _=>v=.bl true) fun _ _ _=>False)
  (hCX:∀(w:World) (H:Hp) (s:Shared) (e:Value) (s':Shared),CX w [] H s (fun _ _ _=>False) e s'->False) :
  PySem.W.WalkO q loose XP YP l.row.toRowW d [] (fun f vs=>PySem.call f vs):=by
 refine Att.Zc7 hn hdf fun w s₀ s₁ mg mb fa o pm cd doc a vs ns G Y ho hd hcd hmg hobj hints hlen hg=>?_
 have KX:=hY w _ Y
 obtain⟨fd,hb,hF⟩:=F w mg fa _ KX G.T.g hmg
 exact Zhz KX G.T.g G.T.b G.T.builtins G.T.nolimit hg hobj hints (ZtV hlen hn2) hr hF hb (fun H hO hS=>hsp w H a ns hlen hO hS) fun H e s'=>hCX w H s₁ e s'
theorem ZgI {l:PySem.W.OpenLaw}{n k:Nat}{q:Program}{loose:List Str}{XP:(Str->Option Value)->Heap->Prop}{YP:World->Heap->Prop}{d:DefRec}{K:Params->W.Frag}{CX:CXT}{sp:W.Frag->Sp}{x:Str}
  (hn:l.most=some n) (hn2:n<=sizeLine) (hdf:d.params.defaults=[]) (hr:UH k callerA)
  (hY:∀(w:World) (h:Heap),YP w h->(K w.params).In h)
  (F:∀(w:World) (mg:Str->Option Value) (fa:Addr) (h:Heap),(K w.params).In h->h.Ns mainGlobals mg->mg d.name=some (.ref fa) ->
   ∃fd:FuncData,(∀(s:Shared) (u:Value),BindsTo s fd ⟨[u],[]⟩ [(x,u)]) /\
    ∀base:Heap,(K w.params).In base->base.Ns mainGlobals mg->JB l.prog w (K w.params) mg base CX k fa fd [x] (sp (K w.params)))
  (hsp:∀(K:PySem.W.Frag) (H:Hp) (a:Addr) (ns:List Int),ns.length<=n->Zl7 H->SqL K H a (ns.map V.int)->sp K [.ref a] H (fun v _=>v=.bl true) fun _ _ _=>False)
  (hCX:∀(H:Hp) (s:Shared) (e:Value) (s':Shared),CX [] H s (fun _ _ _=>False) e s'->False) :
  PySem.W.WalkO q loose XP YP l.row.toRowW d [] (fun f vs=>PySem.call f vs):=
 ZiF (K:=K) (CX:=fun _=>CX) (sp:=fun w=>sp (K w.params)) hn hn2 hdf hr hY F (fun w H a ns h1 h2 h3=>hsp (K w.params) H a ns h1 h2 h3) fun _ H s e s'=>hCX H s e s'
noncomputable def Z0 (s:Stmt):Arguments:=match s with
 |.FunctionDef _ a _ _ _ _ _ _ _ _=>a
 |_=>{ posonlyargs:=[],args:=[],vararg:=none,kwonlyargs:=[],kw_defaults:=[],kwarg:=none,defaults:=[] }
noncomputable def Zu (s:Stmt):List Stmt:=match s with
 |.FunctionDef _ _ b _ _ _ _ _ _ _=>b
 |_=>[]
noncomputable def Zh (s:Stmt):Scope:=match s with
 |.FunctionDef _ _ _ _ _ _ sc _ _ _=>sc
 |_=>{ kind:=.function,names:=[],isGenerator:=false,isCoroutine:=false }
noncomputable abbrev CX0:CXT:=fun _ _ _ _ _ _=>False
noncomputable abbrev E0:XK:=fun _ _ _=>False
theorem Zk9 {X:Cx}:ZdK CX0 X E0:=fun _ _ _ _ _ _ _ h=>h.elim
structure Fun (K:PySem.W.Frag) (x qual:Str) (st:Stmt) (f:Addr) (fd:FuncData):Prop where
 ex:∃(oc:Value) (od:Option Addr) (kV doc pm:Value) (an:Option Addr) (cdv ct:Value) (osl:Array (Option Value)),
  fd=PySem.W.fnOf x qual (Z0 st) (Zu st) (Zh st) .none kV doc pm an cdv ct/\K.lookup f=some ⟨oc,od,.func fd,osl⟩/\PySem.W.codeIn K cdv qual=true
 kp:PySem.W.keepIn K (.ref f)=true
section
variable {P:Program}{w:World}{K:W.Frag}{mg:Str->Option Value}{base:Heap}
theorem Fun.ok {x qual:Str}{st:Stmt}{f:Addr}{fd:FuncData}{N ps:List Str}{k:Nat}{sp:Sp} (F:Fun K x qual st f fd) (S:Zz N ps (Zh st)) (len:∀vs H Q E,sp vs H Q E->vs.length=ps.length)
  (hbody:∀(cdv:Value) (A:Around) (outer:List Env) (s:Shared) (H:Hp) (vs:List V) (Q:VK) (E:XK),UH k (A.deeper (envOfC qual (Zh st) s.heap.objs.size f cdv))->sp vs H Q E ->
   ∃t,PSs (ZbC CX0 P w K mg base N qual (Zh st) f cdv A outer s H E).nox (Zu st) t/\t { nx:=fun _ H'=>Q .non H',rt:=Q } (VY N vs) H):JB P w K mg base CX0 (k+1) f fd ps sp:=by
 obtain⟨oc,od,kV,doc,pm,an,cdv,ct,osl,rfl,lk,hcd⟩:=F.ex
 refine Zlg lk hcd S len fun A outer s H vs Q E hr hsp=>?_
 obtain⟨t,h,q⟩:=hbody cdv A outer s H vs Q E hr hsp
 exact⟨t,h.nox,q⟩
theorem Fun.binds {x qual:Str}{st:Stmt}{f:Addr}{fd:FuncData}{ps:List Str} (F:Fun K x qual st f fd)
  (h:∀(kV doc pm:Value) (an:Option Addr) (cdv ct:Value) (us:List Value),us.length=ps.length->bindArgs (PySem.W.fnOf x qual (Z0 st) (Zu st) (Zh st) .none kV doc pm an cdv ct) ⟨us,[]⟩=pure (ps.zip us)):ZbL K fd ps []:=by
 obtain⟨oc,od,kV,doc,pm,an,cdv,ct,osl,rfl,lk,hcd⟩:=F.ex
 exact .all (h kV doc pm an cdv ct)
theorem ZN {x qual:Str}{st:Stmt}{f:Addr}{oc:Value}{od an:Option Addr}{osl:Array (Option Value)}{kV doc pm cdv ct:Value} (l:K.lookup f=some ⟨oc,od,.func (PySem.W.fnOf x qual (Z0 st) (Zu st) (Zh st) .none kV doc pm an cdv ct),osl⟩)
  (c:PySem.W.codeIn K cdv qual=true) (k:PySem.W.keepIn K (.ref f)=true):Fun K x qual st f (PySem.W.fnOf x qual (Z0 st) (Zu st) (Zh st) .none kV doc pm an cdv ct):=⟨⟨oc,od,kV,doc,pm,an,cdv,ct,osl,rfl,l,c⟩,k⟩
variable {X:Cx}
theorem pv (i:Nat) {x:Str}{pos:Pos} (hN:X.N[i]?=some x:=by rfl) (hv:Vis X.env.scope x:=by first|exact Or.inl rfl|exact Or.inr (Or.inl rfl)|exact Or.inr (Or.inr rfl)) (hd:(x==("__debug__":Str))=false:=by decide)
  (hcd:(x==("__classdict__":Str))=false:=by decide):PE X (.Name x pos) (ZaW i):=Zk5 hN hv hd hcd
end
def Z7 (H H':Hp):Prop:=∀b o,H b=some o->H' b=some o
theorem Z7.refl (H:Hp):Z7 H H:=fun _ _ h=>h
theorem Z7.trans {H H1 H2:Hp} (a:Z7 H H1) (b:Z7 H1 H2):Z7 H H2:=fun c o h=>b c o (a c o h)
theorem Z7.free {H H':Hp} (e:Z7 H H') {l:Addr} (h:H' l=Option.none):H l=Option.none:=by
 cases q:H l with
 |none=>rfl
 |some o =>
  rw[e l o q] at h
  cases h
end L2
set_option maxHeartbeats 4000000
namespace L2
open PySem PySem.Spec PyProof.Rows
noncomputable def ZbE (scope:Scope) (env:Env):List (Str×Addr):=
 ((scope.names.filter fun p=>p.2==.free).reverse).map fun p=>(p.1,(env.cells.lookup p.1).getD 0)
theorem Uf {β:Type}:∀{l:List (Str×β)}{a:Str}{b:β},(a,b)∈l->∃c,l.lookup a=some c
 |[],_,_,h=>absurd h (by simp)
 |(n,v)::r,a,b,h=>by
  cases e:a==n with
  |true=>exact⟨v,by simp[Zuv,e]⟩
  |false =>
   rcases ZtN.mp h with z|z
   ·cases z;simp at e
   ·obtain⟨c,hc⟩:=Uf z
    exact⟨c,by simp[Zuv,e,hc]⟩
theorem Z8 {env:Env}:∀{names:List (Str×NameKind)}{y:Str}{k:NameKind},(∀p∈names,p.2≠.cell) ->
  (names.map fun(n,k)=>if (k==NameKind.free&&env.scope.kind==.function&&env.kindOf n==some .cell) then (n,NameKind.cell) else (n,k)).lookup y=some k ->
  (k=.local->names.lookup y=some .local)/\(k=.cell\/k=.free->names.lookup y=some .free)
 |[],_,_,_,h=>by simp at h
 |(n,k0)::r,y,k,nc,h=>by
  have ih:=@Z8 env r y k (fun p hp=>nc p (Zui _ hp))
  have nc0:=nc (n,k0) ZuB
  have h':List.lookup y ((if (k0==NameKind.free&&env.scope.kind==.function&&env.kindOf n==some .cell)=true then (n,NameKind.cell) else (n,k0))::(r.map fun(n,k)=>if (k==NameKind.free&&env.scope.kind==.function&&env.kindOf n==some .cell) then (n,NameKind.cell) else (n,k)))=some k:=h
  cases hx:y==n with
  |true =>
   by_cases hc:(k0==NameKind.free&&env.scope.kind==.function&&env.kindOf n==some .cell)=true
   ·rw[if_pos hc] at h'
    simp only[Zuv,hx] at h'
    have hk:NameKind.cell=k:=Option.some.inj h'
    subst hk
    have hf:k0=.free:=by
     simp only[Bool.and_eq_true] at hc
     exact beq_iff_eq.mp hc.1.1
    subst hf
    exact⟨(fun z=>nomatch z),fun _=>by simp[Zuv,hx]⟩
   ·rw[if_neg hc] at h'
    simp only[Zuv,hx] at h'
    have hk:k0=k:=Option.some.inj h'
    subst hk
    refine⟨fun z=>by subst z;simp[Zuv,hx],fun z=>?_⟩
    rcases z with z|z
    ·exact absurd z nc0
    ·subst z;simp[Zuv,hx]
  |false =>
   by_cases hc:(k0==NameKind.free&&env.scope.kind==.function&&env.kindOf n==some .cell)=true
   ·rw[if_pos hc] at h'
    simp only[Zuv,hx] at h'
    have:=ih h'
    simpa[Zuv,hx] using this
   ·rw[if_neg hc] at h'
    simp only[Zuv,hx] at h'
    have:=ih h'
    simpa[Zuv,hx] using this
noncomputable def blk (X:Cx) (scope:Scope) (x:Str) (C:Addr) (ex:List Addr) (s₂:Shared) (H₂:Hp):Cx:=
 { X with N:=X.N++[x],s₀:=s₂,H₀:=H₂,env:=compEnvC scope (ZbE scope X.env) C X.env,outer:=X.stack,ex:=ex,fn:=fun _=>false,pn:=[],xe:=fun _ _=>False }
noncomputable def QA (N:List Str) (sc scope:Scope) (x:Str):Bool:=
 (scope.names.all fun p=>!(p.2==.cell))&&(scope.kind==.function)&&(scope.names.all fun p=>!(p.2==.local) || scope.names.lookup p.1==some .local)&&(scope.names.lookup x==some .local)
  && (N.all fun y=>!(scope.names.lookup y==some .local))&&(scope.names.all fun p=>!(p.2==.free) || sc.names.lookup p.1==some .cell || sc.names.lookup p.1==some .free)
structure V6 (N:List Str) (sc scope:Scope) (x:Str):Prop where
 nc:∀p∈scope.names,p.2≠.cell
 kind:scope.kind=.function
 locs:∀p∈scope.names,p.2=.local->scope.names.lookup p.1=some .local
 var:scope.names.lookup x=some .local
 noN:∀y∈N,scope.names.lookup y≠some .local
 fr:∀p∈scope.names,p.2=.free->sc.names.lookup p.1=some .cell\/sc.names.lookup p.1=some .free
theorem V6.of {N:List Str}{sc scope:Scope}{x:Str} (h:QA N sc scope x=true):V6 N sc scope x:=by
 unfold QA at h
 simp only[Bool.and_eq_true,Zuo,Bool.or_eq_true,Bool.not_eq_true',beq_iff_eq,beq_eq_false_iff_ne] at h
 obtain⟨⟨⟨⟨⟨h1,h2⟩,h3⟩,h4⟩,h5⟩,h6⟩:=h
 refine⟨h1,h2,fun p hp e=>?_,h4,h5,fun p hp e=>?_⟩
 ·rcases h3 p hp with z|z
  ·exact absurd e z
  ·exact z
 ·rcases h6 p hp with (z|z)|z
  ·exact absurd e z
  ·exact .inl z
  ·exact .inr z
section
variable {X:Cx}{pins:List (Addr×Obj)}{σ:St}{H:Hp}{s:Shared}
theorem Inv.adopt {D:Addr}{ys:List V}{its:List Value}{n:Nat} (I:Inv X pins σ H s) (hn:H D=none) (h1:X.s₀.heap.objs.size<=D) (hL:D≠X.env.locals) (hc:∀x c,X.env.cells.lookup x=some c->c≠D)
  (hp:∀p∈X.pn++pins,p.1≠D) (ho:s.heap.get? D=some { cls:=.type "list",data:=.seq its.toArray n }) (r:Jb ys its) (hz:ys.length<=sizeLine):Inv X pins σ (upd H D (.lst ys)) s:=by
 refine I.step (h':=s.heap) (g':=s.gens) (d':=s.drawn) (t':=s.toks) (ch:=[D]) (fun b hb=>?_) (fun b o _ _ _ e _=>e) (fun b o _ _ _ e _=>⟨o.slots,e⟩) (fun b o hb _ e=>?_) (fun b o _ e=>⟨o,e⟩)
  (fun b xs e=>?_) (fun b o u e=>?_) (fun b ps e=>⟨#[], ?_⟩) (fun m hm=>hm) (fun b u e=>?_) I.bare
 ·have e:b=D:=by simpa using hb
  subst e
  exact⟨.inr h1,hL,hc,hp⟩
 ·rw[Z1 (by simpa using hb)];exact e
 ·rw[Z1 (ZR e hn)];exact e
 ·rw[Z1 (ZR e hn)];exact e
 ·rw[Z1 (ZR e hn),e];simp
 ·by_cases hb:b=D
  ·subst hb
   rw[ZD] at e;cases e
   exact⟨hz,its,n,r,ho⟩
  ·rw[Z1 hb] at e
   exact(I.hok b u e).stay (fun c v _ q=>q) (fun c q=>by rw[Z1 (ZR q hn)];exact q) fun c xs q=>by rw[Z1 (ZR q hn)];exact q
variable {s₂:Shared}{H₂:Hp}{scope:Scope}{x:Str}{fp:List Addr}
theorem JJ {sc:V6 X.N X.env.scope scope x} (ok:X.Ok) {y:Str}{c:Addr} (h:(ZbE scope X.env).lookup y=some c):X.env.cells.lookup y=some c:=by
 have hm:=PySem.mem_of_lookup h
 unfold ZbE at hm
 obtain⟨p,hp,e⟩:=ZtY.mp hm
 have hp':=Zuw.mp (Zv9.mp hp)
 obtain⟨e1,e2⟩:=Prod.mk.inj e
 have hk:=sc.fr p hp'.1 (beq_iff_eq.mp hp'.2)
 obtain⟨c',hc'⟩:=ok.has p.1 hk
 rw[hc'] at e2
 rw[<- e1,hc']
 exact congrArg some e2
theorem UW {y:Str} (h:scope.names.lookup y=some .free):∃c,(ZbE scope X.env).lookup y=some c:=by
 have hm:=PySem.mem_of_lookup h
 refine Uf (b:=(X.env.cells.lookup y).getD 0) ?_
 unfold ZbE
 exact ZtY.mpr ⟨(y,.free),Zv9.mpr (Zuw.mpr ⟨hm,rfl⟩),rfl⟩
theorem Zl2 (I:Inv X pins σ H₂ s₂) (sc:V6 X.N X.env.scope scope x) {C:Addr} (hC:s₂.heap.objs.size<=C) (ff:∀b∈fp,Ze1 X pins H₂ b) (fo:∀b∈fp,∃o,s₂.heap.get? b=some o):(blk X scope x C fp s₂ H₂).Ok where
 mod:=I.ok.mod
 kind:=sc.kind
 glob:=I.ok.glob
 blt:=I.ok.blt
 above:=hC
 inj:=fun y z c h1 h2=>I.ok.inj y z c (JJ (sc:=sc) I.ok h1) (JJ (sc:=sc) I.ok h2)
 has:=fun y hy=>by
  have hy':(relabel scope X.env).names.lookup y=some .cell\/(relabel scope X.env).names.lookup y=some .free:=hy
  have hf:scope.names.lookup y=some .free:=by
   rcases hy' with z|z
   ·exact(Z8 sc.nc z).2 (.inl rfl)
   ·exact(Z8 sc.nc z).2 (.inr rfl)
  exact UW hf
 cab:=fun y c h=>by cases h
 hd:=I.ok.hd
 frames:=I.ok.frames
 stk:=.inl rfl
 exf:=fun b hb=>by
  obtain⟨f0,f1,f2,f3,f4,f5⟩:=ff b hb
  obtain⟨o,ho⟩:=fo b hb
  exact⟨ZtU (ZtM (Heap.lt_size ho) hC),fun y c h=>f4 y c (JJ (sc:=sc) I.ok h)⟩
 bs:=I.bs
 bsz:=ZtV I.ok.bsz I.sz
 noex:=fun b o e hb=>by
  obtain⟨f0,f1,f2,f3,f4,f5⟩:=ff b hb
  rcases f3 with z|z
  ·exact I.ok.noex b o e z
  ·exact absurd (ZtM (Heap.lt_size e) (ZtV I.ok.bsz z)) (Zun _)
 exfs:=fun b hb z=>by
  obtain⟨f0,f1,f2,f3,f4,f5⟩:=ff b hb
  rcases ZtN.mp (I.stkSub b z) with e|e
  ·exact f1 e
  ·exact f2 e
 funs:=I.stack
 frf:=I.stkFree
end
def ZhW (σ:St) (te:TE) (J:It) (H1:Hp) (Q:VK):Prop:=∃W:Nat->Nat->List V->Hp->Prop,(∃m,W 0 m [] H1)/\∀i m ys H2,W i m ys H2->ys.length<=sizeLine /\
 ((J.stop i H2/\∀p,H2 p=none->Q (.ref p) (upd H2 p (.lst ys))) \/
  (J.go i H2/\∃N:List V->Hp->Prop,(∀ys' H',N ys' H'->∃m',m'<m/\W (i+1) m' ys' H')/\∀x H3,J.yld i H2 x H3->te (σ++[some x]) H3 fun y H4=>N (ys++[y]) H4))
noncomputable def ZgN (wi:TI) (te:TE):TE:=fun σ H Q=>wi σ H fun J H1=>ZhW σ te J H1 Q
section
variable {X:Cx}{pins:List (Addr×Obj)}{σ:St}{s₂:Shared}{H₂:Hp}{scope:Scope}{x:Str}{px:Pos}{elt iter:Expr}{pos:Pos}{te:TE}{J:It}{fp:List Addr}{it:Addr}{tn:Nat->Heap->Prop}
theorem ZdC {E:Value->Shared->Prop}{Q:VK}{RR:Value->Addr->Result->Shared->Prop} (I:Inv X pins σ H₂ s₂) (sc:V6 X.N X.env.scope scope x) (hNd:X.N.Nodup) (hc:X.calm=true)
  (T:Zkd X.prog X.w X.K (.Name x px) J fp it tn) (st:tn 0 s₂.heap) (ff:∀b∈fp,Ze1 X pins H₂ b) (hw:ZhW σ te J H₂ Q)
  (he:∀C s₂ H₂ ex,PE (blk X scope x C ex s₂ H₂) elt te)
  (hRR:∀D C s' H' m',s₂.heap.objs.size<=C->Inv X pins σ H' s'->s'.heap.Ns C m'->H' C=none->Q (.ref D) H'->RR (.ref D) C (.ok .next) s') :
  wpAny (model X.prog X.w) X.A (newList []) (fun acc s₃=>wpAny (model X.prog X.w) X.A (newFunctionEnv scope X.env.globals (ZbE scope X.env) [] X.env.qual none .none (some X.env)) (fun cenv s₄ =>
   codeAny (model X.prog X.w) X.A (.compStart (.ListComp elt [⟨.Name x px,iter,[],0⟩] scope pos) 0 (.ref it) acc { cenv with scope:=relabel scope X.env }) (RR acc cenv.locals) s₄) E s₃) E s₂:=by
 refine wpAny_newObj_type (wpAny_newFunctionEnv sc.nc (by intro y hy;simp at hy) (fun h₁ hns₁ hsb₁=>?_) sc.kind)
 dsimp only at hns₁ hsb₁ ⊢
 generalize hP2:s₂.heap.push { cls:=.type "list",dict:=none,data:=.seq ([]:List Value).toArray }=P2 at hns₁ hsb₁ ⊢
 have hCs:P2.objs.size=s₂.heap.objs.size+1:=by rw[<- hP2,Heap.size_push]
 have hCle:s₂.heap.objs.size<=P2.objs.size:=by rw[hCs];exact Nat.le_succ _
 have hDC:s₂.heap.objs.size≠P2.objs.size:=by rw[hCs];exact ZtU (ZvA _)
 generalize hCe:P2.objs.size=C at hns₁ hsb₁ hCs hCle hDC ⊢
 generalize hDe:s₂.heap.objs.size=D at hCs hCle hDC ⊢
 have fo:∀b∈fp,∃o,s₂.heap.get? b=some o:=fun b hb=>let ⟨o,e,_⟩:=T.obj _ _ st b hb;⟨o,e⟩
 have flt:∀b∈fp,b<D:=fun b hb=>by obtain⟨o,e⟩:=fo b hb;rw[<- hDe];exact Heap.lt_size e
 have old:∀b o,s₂.heap.get? b=some o->h₁.get? b=some o:=fun b o e=>by
  have hb:=Heap.lt_size e
  exact hsb₁.extBut b o (ZtU (by rw[hCs];exact Zv6 (hDe▸hb))) (Heap.get?_push_of_some _ (hP2▸Heap.get?_push_of_some _ e))
 have hacc:h₁.get? D=some { cls:=.type "list",data:=.seq ([]:List Value).toArray 0 }:=hsb₁.extBut _ _ hDC (Heap.get?_push_of_some _ (hP2▸hDe▸Heap.get?_push_size _ rfl))
 have okB:=Zl2 (x:=x) (C:=C) I sc (by rw[hDe];exact hCle) ff fo
 have hfreshD:H₂ D=none:=I.hok.fresh (by rw[hDe];exact ZtE _)
 have hfreshC:H₂ C=none:=I.hok.fresh (by rw[hDe];exact hCle)
 have hxN:x ∉ X.N:=fun z=>sc.noN x z sc.var
 have ndB:(X.N++[x]).Nodup:=List.nodup_append.mpr ⟨hNd,by simp,fun a ha b hb=>by
  have:b=x:=by simpa using hb
  subst this;rintro rfl;exact hxN ha⟩
 have I0:Inv (blk X scope x C fp s₂ H₂) [(D,{ cls:=.type "list",data:=.seq ([]:List Value).toArray 0 })] (σ++[none]) H₂ { s₂ with heap:=h₁,toks:=s₂.toks+([]:List (Str×Value)).length }:=by
  refine⟨okB,rfl,I.bare,Un.kept old,⟨_,hns₁,fun i y v e1 e2 e3=>?_⟩,fun y c e=>?_,hfreshC,fun y c e=>I.freeC y c (JJ (sc:=sc) I.ok e),fun p hp=>?_,I.hok.kept old,by simp[blk,I.len]⟩
  ·have hi:i<σ.length:=by
    by_cases hi:i<σ.length
    ·exact hi
    ·rw[ZtJ (by omega)] at e2
     have:([none]:St)[i-σ.length]?=some (some v):=e2
     cases hj:i-σ.length with
     |zero=>rw[hj] at this;simp at this
     |succ j=>rw[hj] at this;simp at this
   rw[ZtI hi] at e2
   have e1':(X.N++[x])[i]?=some y:=e1
   rw[ZtI (by rw[<- I.len];exact hi)] at e1'
   have yN:y∈X.N:=ZtA e1'
   have e3':(relabel scope X.env).names.lookup y=some .local\/(relabel scope X.env).names.lookup y=some .cell\/(relabel scope X.env).names.lookup y=some .free:=e3
   have hcf:(relabel scope X.env).names.lookup y=some .cell\/(relabel scope X.env).names.lookup y=some .free:=by
    rcases e3' with z|z
    ·exact absurd ((Z8 sc.nc z).1 rfl) (sc.noN y yN)
    ·exact z
   have hfree:scope.names.lookup y=some .free:=by
    rcases hcf with z|z
    ·exact(Z8 sc.nc z).2 (.inl rfl)
    ·exact(Z8 sc.nc z).2 (.inr rfl)
   obtain⟨c,hcl⟩:=UW (X:=X) hfree
   have hcx:=JJ (sc:=sc) I.ok hcl
   have hvis:=sc.fr _ (PySem.mem_of_lookup hfree) rfl
   obtain⟨m,hn,hl⟩:=I.loc
   obtain⟨u,ru,hlook⟩:=hl i y v e1' e2 (.inr hvis)
   refine⟨u,ru,.inr ⟨hcf,c,hcl, ?_⟩⟩
   rcases hlook with ⟨k,_⟩|⟨k,c',ec,hcell⟩
   ·have k':X.env.scope.names.lookup y=some .local:=k
    have hv':X.env.scope.names.lookup y=some .cell\/X.env.scope.names.lookup y=some .free:=hvis
    rw[k'] at hv'
    rcases hv' with z|z<;>cases z
   ·rw[hcx] at ec;cases ec
    obtain⟨o,ho,hd⟩:=hcell
    exact⟨o,old _ _ ho,hd⟩
  ·obtain⟨v,o,ho,hd⟩:=I.cell y c (JJ (sc:=sc) I.ok e)
   exact⟨v,o,old _ _ ho,hd⟩
  ·have e:p=(D,{ cls:=.type "list",data:=.seq ([]:List Value).toArray 0 }):=by simpa[blk] using hp
   subst e
   exact⟨hacc,hfreshD,hDC,(fun z=>by
    rcases ZtN.mp (I.stkSub D z) with e|e
    ·exact absurd I.lt (by rw[<- e,hDe];exact Zun _)
    ·exact I.nofs (by rw[hDe];exact ZtE _) e),fun v z=>nomatch z⟩
 obtain⟨W,⟨m0,w0⟩,turn⟩:=hw
 have fpB:∀{H':Hp}{o:Obj},(∀b∈fp,H' b=none)->∀b∈fp,Ze1 (blk X scope x C fp s₂ H₂) [(D,o)] H' b:=fun {H' o} hn b hb=>by
  obtain⟨f0,f1,f2,f3,f4,f5⟩:=ff b hb
  obtain⟨g1,g2⟩:=okB.exf b hb
  exact⟨hn b hb,g1,okB.exfs b hb,.inl hb,g2,fun p hp=>by
   have e:p=(D,o):=by simpa[blk] using hp
   subst e
   exact(ZtU (flt b hb)).symm⟩
 have hσ:σ.length=X.N.length:=I.len
 have loop:∀s₃:Shared,s₃={ s₂ with heap:=h₁,toks:=s₂.toks+([]:List (Str×Value)).length } ->
   codeAny (model X.prog X.w) X.A (.compLoop (.ListComp elt [⟨.Name x px,iter,[],0⟩] scope pos) 0 (.ref it) (.ref D) (compEnvC scope (ZbE scope X.env) C X.env)) (RR (.ref D) C) s₃:=by
  rintro s₃ rfl
  refine codeAny_compLoop_tests
   (fun n s'=>∃i ys its k σx H',Inv (blk X scope x C fp s₂ H₂) [(D,{ cls:=.type "list",data:=.seq (List.toArray its) k })] (σ++[σx]) H' s'/\tn i s'.heap/\(∀b∈fp,H' b=none)/\Jb ys its/\W i n ys H') ?_ m0
   ⟨0,[],[],0,none,H₂,I0,T.keep _ _ _ st (fun b hb o e=>old b o e),fun b hb=>(ff b hb).1,.nil,w0⟩
  rintro n s' ⟨i,ys,its,k,σx,H',I',st',fr',rv,w'⟩
  obtain⟨hz,hcase⟩:=turn i n ys H' w'
  have hpinD:=I'.pin (D,{ cls:=.type "list",data:=.seq (List.toArray its) k }) (by simp[blk])
  rcases hcase with ⟨stop,q⟩|⟨go,N,hN,step⟩
  ·refine thn (T.done (blk X scope x C fp s₂ H₂) rfl rfl rfl hc i _ s' _ H' _ I' (fpB fr') st' stop) fun r s4 ⟨hr,I4⟩=>?_
   subst hr
   have pD:=I4.pin (D,{ cls:=.type "list",data:=.seq (List.toArray its) k }) (by simp[blk])
   obtain⟨m4,hn4,_⟩:=I4.loc
   have IX:Inv X pins σ H' s4:=I.call' I4.os I4.base I4.hok I4.bare fun b hb=>by
    obtain⟨f0,f1,f2,f3,f4,f5⟩:=ff b hb
    exact⟨f3,f1,f4,f5⟩
   have IX2:=IX.adopt (D:=D) (ys:=ys) (its:=its) (n:=k) hpinD.2.1 (by rw[<- hDe];exact I.sz) (by rw[<- hDe];exact ZuX I.lt)
    (fun y c e z=>by
     obtain⟨v,o,ho,hd⟩:=I.cell y c e
     have:=Heap.lt_size ho
     rw[hDe,z] at this
     exact Zun _ this)
    (fun p hp z=>by
     have:=Heap.lt_size (I.pin p hp).1
     rw[hDe,z] at this
     exact Zun _ this) pD.1 rv hz
   refine hRR D C s4 _ m4 (by rw[hDe];exact hCle) IX2 hn4 ?_ (q D hpinD.2.1)
   rw[Z1 (Ne.symm hDC)]
   exact I4.free
  ·refine thn (T.item (blk X scope x C fp s₂ H₂) rfl rfl rfl hc i _ s' _ H' _ I' (fpB fr') st' go) fun r s4 ⟨u,hr,h4⟩=>?_
   subst hr
   show wpAny _ _ (letOwnedTupleGo (.Name x px) (.ref it) u >>= fun _=>assign (.Name x px) (compEnvC scope (ZbE scope X.env) C X.env) u) _ _ s4
   refine wpAny_bind (thn h4 fun _ s5 ⟨y,H5,I5,r5,y5,st5,fr5⟩=>?_)
   have I5':=I5.pinned (fpB fr5) (T.obj _ _ st5)
   refine wpAny_assign_Name ?_
   refine UO (X:=blk X scope x C fp s₂ H₂) (i:=X.N.length) (x:=x) (v:=y) I5' ndB (by simp[blk]) (.inl (lookup_relabel_local sc.var)) r5 (fun s6 I6=>?_) (.inr (lookup_relabel_local sc.var))
   have eσ:(σ++[σx]).set X.N.length (some y)=σ++[some y]:=by
    rw[<- hσ];simp
   rw[eσ] at I6
   refine wpAny_tests_nil ?_
   simp only[if_true]
   refine wpAny_mono (he C s₂ H₂ fp _ s6 _ H5 _ I6 (step y H5 y5)) (fun u7 s7 h7=>?_) fun _ _ f=>f.elim
   obtain⟨v7,H7,I7,r7,n7⟩:=h7
   have pD7:=I7.pin (D,{ cls:=.type "list",data:=.seq (List.toArray its) k }) (by simp[blk])
   have hlen:=rv.length
   refine append_at (hsz:=by show its.toArray.size<=sizeLine;rw[ZtL,<- hlen];exact hz) pD7.1 fun h8 hs8 hD8=>?_
   obtain⟨m',hm,w8⟩:=hN _ _ n7
   have hD8':h8.get? D=some { cls:=.type "list",data:=.seq (its++[u7]).toArray (k+1) }:=by rw[hD8,List.push_toArray]
   have I8:Inv (blk X scope x C fp s₂ H₂) [] (σ++[some y]) H7 { s7 with heap:=h8 }:=by
    refine(I7.pins_of (pins':=[]) fun p hp=>absurd hp (by simp)).turned (t':=s7.toks) (it:=D) (fun b o hb e=>(hs8.2 b hb).trans e) pD7.2.1 pD7.2.2.1 (.inr (by show s₂.heap.objs.size<=D;rw[hDe];exact ZtE _)) (fun y' c' e' z=>?_) fun p hp=>absurd (show p∈([]:List (Addr×Obj)) from by simpa[blk] using hp) (by simp)
    obtain⟨v,o,ho,hd⟩:=I.cell y' c' (JJ (sc:=sc) I.ok e')
    have:=Heap.lt_size ho
    rw[hDe,z] at this
    exact Zun _ this
   refine⟨m',hm,i+1,ys++[v7],its++[u7],k+1,some y,H7,I8.pins_of fun p hp=>?_, ?_,fun b hb=>?_,rv.append (.cons r7 .nil),w8⟩
   ·have e:p=(D,{ cls:=.type "list",data:=.seq (its++[u7]).toArray (k+1) }):=by simpa using hp
    subst e
    exact⟨hD8',pD7.2.1,pD7.2.2.1,pD7.2.2.2.1,fun v z=>nomatch z⟩
   ·refine T.keep _ _ _ st5 fun b hb o e=>?_
    have hpb:=I7.pin (b,o) (ZtB _ (ZtB _ (Ju hb e)))
    exact(hs8.2 b (ZtU (flt b hb))).trans hpb.1
   ·obtain⟨o,e,d⟩:=T.obj _ _ st5 b hb
    exact(I7.pin (b,o) (ZtB _ (ZtB _ (Ju hb e)))).2.1
 exact codeAny_compStart_list (loop _ rfl) (T.self _ 0 _ _ _ (T.keep _ _ _ st fun b hb o e=>old b o e) (loop _ rfl))
theorem U0 {wi:TI} (hi:PI X (.Name x px) iter wi) (he:∀C s₂ H₂ ex,PE (blk X scope x C ex s₂ H₂) elt te) (hNd:X.N.Nodup) (hc:X.calm=true)
  (hclos:closureFor scope X.env=pure (ZbE scope X.env):=by rfl) (hchk:QA X.N X.env.scope scope x=true:=by rfl) (hs:∀x,foldedSetIterable iter X.env x=pure x:=by exact fun _=>rfl) :
  PE X (.ListComp elt [⟨.Name x px,iter,[],0⟩] scope pos) (ZgN wi te):=by
 intro pins s σ H Q I h
 have sc:=V6.of hchk
 rw[eval_ListComp]
 refine wpAny_comprehension_free (use:=none) rfl hs hclos sc.kind sc.locs (thn (hi pins s σ H _ I h) fun xv s₁ h₁=>thn h₁ fun itv s₂ h₂=>?_)
 obtain⟨it,fp,tn,J,H2,e,I2,T,st2,f2,q⟩:=h₂
 subst e
 refine ZdC (RR:=fun acc C=>compPost (model X.prog X.w) X.A X.xe none (EP X pins σ Q) acc C) I2 sc hNd hc T st2 f2 q he ?_
 intro D C s' H' m' hC I' hn hC0 hq
 refine⟨m',hn,fun h'' hs''=>⟨.ref D,H', ?_,rfl,hq⟩⟩
 refine I'.turned (t':=s'.toks) (it:=C) (fun b o hb e=>(hs''.2 b hb).trans e) hC0 (ZuX (ZtM I2.lt hC)) (.inr (ZtV I2.sz hC)) (fun y c e z=>?_) fun p hp z=>?_
 ·obtain⟨v,o,ho,hd⟩:=I2.cell y c e
  exact absurd (Heap.lt_size ho) (Zvg.mpr (by rw[z];exact hC))
 ·exact absurd (Heap.lt_size (I2.pin p hp).1) (Zvg.mpr (by rw[z];exact hC))
noncomputable def ZcO (i:Nat) (wi:TI) (te:TE):TS:=fun D σ H=>ZgN wi te σ H fun v H'=>D.nx (σ.set i (some v)) H'
theorem QP {i:Nat}{y:Str}{py spos:Pos}{wi:TI} (hN:X.N.Nodup) (hi:X.N[i]?=some y) (hit:PI X (.Name x px) iter wi) (he:∀C s₂ H₂ ex,PE (blk X scope x C ex s₂ H₂) elt te) (hc:X.calm=true)
  (hsw:swapsWith (.ListComp elt [⟨.Name x px,iter,[],0⟩] scope pos) (some (.Name y py)) spos.line X.env=pure true:=by rfl) (hy:X.env.scope.names.lookup y=some .local:=by rfl)
  (hclos:closureFor scope X.env=pure (ZbE scope X.env):=by rfl) (hchk:QA X.N X.env.scope scope x=true:=by rfl) (hs:∀x,foldedSetIterable iter X.env x=pure x:=by exact fun _=>rfl) :
  PS X (.Assign [.Name y py] (.ListComp elt [⟨.Name x px,iter,[],0⟩] scope pos) spos) (ZcO i wi te):=by
 intro pins s σ H D0 I h
 have sc:=V6.of hchk
 rw[exec_Assign_Name_used _ _ _ _ hsw]
 refine wpAny_bind (wpAny_standAt (wpAny_bind ?_))
 show wpAny _ X.A (do let _ <- comprehension (.ListComp elt [⟨.Name x px,iter,[],0⟩] scope pos) scope X.env _ (newList []) false (eval iter X.env) (some (assign (.Name y py) X.env))) _ _ s
 refine wpAny_bind (wpAny_mono (wpAny_comprehension_free (use:=some (assign (.Name y py) X.env)) (Q:=fun _ s'=>SP X pins D0 .next s') rfl hs hclos sc.kind sc.locs
  (thn (hit pins s σ H _ I h) fun xv s₁ h₁=>thn h₁ fun itv s₂ h₂=>?_)) (fun _ s' hq=>wpAny_pure (wpAny_pure hq)) fun _ _ e=>e)
 obtain⟨it,fp,tn,J,H2,e,I2,T,st2,f2,q⟩:=h₂
 subst e
 refine ZdC (RR:=fun acc C=>compPost (model X.prog X.w) X.A X.xe (some (assign (.Name y py) X.env)) (fun _ s'=>SP X pins D0 .next s') acc C) I2 sc hN hc T st2 f2 q he ?_
 intro D C s' H' m' hC I' hn hC0 hq
 show wpAny _ X.A (assign (.Name y py) X.env (.ref D)) _ _ _
 have cellC:∀y c,X.env.cells.lookup y=some c->c≠C:=fun y c e z=>by
  obtain⟨v,o,ho,hd⟩:=I2.cell y c e
  exact absurd (Heap.lt_size ho) (Zvg.mpr (by rw[z];exact hC))
 have locC:C≠X.env.locals:=ZuX (ZtM I2.lt hC)
 refine wpAny_assign_Name (Qe (i:=i) (v:=.ref D) I' hN hi (.inl hy) rfl (fun s'' I'' ⟨a,hsa,ha⟩=>?_) (.inr hy))
 have hCa:C≠a:=by
  rcases ha with z|z
  ·rw[z];exact locC
  ·exact(cellC _ _ z).symm
 refine⟨m',hn.sameBut hsa hCa,fun h'' hs''=>⟨σ.set i (some (.ref D)),H', ?_,hq⟩⟩
 refine I''.turned (t':=s''.toks) (it:=C) (fun b o hb e=>(hs''.2 b hb).trans e) hC0 locC (.inr (ZtV I2.sz hC)) cellC fun p hp z=>?_
 exact absurd (Heap.lt_size (I2.pin p hp).1) (Zvg.mpr (by rw[z];exact hC))
end
end L2
namespace HL
open PySem PyProof.Rows
section
open PySem.SeqAt
open PySem.AutoSeq1 (wpAny_loadPart')
open PySem.MeetsSeq PySem.MeetsSeq2 PySem.MeetsSeq3 SeqRoads2
theorem VP:∀{vs:List Value}{ns:List Int}{i:Nat} (_:IntsAre vs ns) (h1:i<vs.length) (h2:i<ns.length),∃t,vs[i]=Value.int ns[i] t
 |_,_,0,.cons n t _,_,_=>⟨t,rfl⟩
 |_,_,i+1,.cons n t h,h1,h2=>by
  obtain⟨u,e⟩:=VP (i:=i) h (by simpa using h1) (by simpa using h2)
  exact⟨u,by simpa using e⟩
theorem Zju (l b:Addr) (items items2:Array Value) (n n2:Nat) (dd dd2:Option Addr) (sl sl2:Array (Option Value)) (ns ms:List Int) (hi:IntsAre items.toList ns) (hj:IntsAre items2.toList ms) (k:Nat) :
  ∀i:Nat,min items.size items2.size-i=k->i<=min items.size items2.size->Meets (Builtin.«list.__eq__.loop» ⟨[.ref l,.ref b,rawInt i,rawInt 0],[]⟩)
   (fun A R s=>s.heap.get? l=some { cls:=.type "list",dict:=dd,data:=.seq items n,slots:=sl }/\s.heap.get? b=some { cls:=.type "list",dict:=dd2,data:=.seq items2 n2,slots:=sl2 } /\
    R (.ok (.ret (.bool (HT.ZL (ns.drop i) (ms.drop i))))) s):=by
 have z1:items.size=ns.length:=by rw[<- hi.length];simp
 have z2:items2.size=ms.length:=by rw[<- hj.length];simp
 induction k with
 |zero =>
  intro i hk hle prog w A R s h
  obtain⟨hp,g,d,tk,os⟩:=s;obtain⟨hl,hb,h⟩:=h
  have hmin:min items.size items2.size=i:=by omega
  have fin:HT.ZL (ns.drop i) (ms.drop i)=decide (items.size<items2.size):=by
   rw[z1,z2] at hmin ⊢
   by_cases h1:ns.length<=i
   ·rw[Zu7 h1]
    by_cases h2:ms.length<=i
    ·rw[Zu7 h2,HT.Za5]
     exact(decide_eq_false (by omega)).symm
    ·rw[ZtS (by omega),HT.QG]
     exact(decide_eq_true (by omega)).symm
   ·rw[ZtS (by omega),Zu7 (l:=ms) (by omega),HT.QH]
    exact(decide_eq_false (by omega)).symm
  rw[fin] at h
  wp_walk using wpAny_loadPart' hl,wpAny_loadPart' hb
  by_cases h1:items.size<=i
  ·have hi1:items[((i:Nat):Int).toNat]?=none:=by simp;omega
   rw[hi1]
   cases h2:items2[((i:Nat):Int).toNat]? <;>
   ·wp_walk using wpAny_loadPart' hl,wpAny_loadPart' hb
    exact h
  ·have hi1:items[((i:Nat):Int).toNat]?=some (items[i]'(by omega)):=by simp
   have hi2:items2[((i:Nat):Int).toNat]?=none:=by simp;omega
   rw[hi1,hi2]
   wp_walk using wpAny_loadPart' hl,wpAny_loadPart' hb
   exact h
 |succ k ih =>
  intro i hk hle prog w A R s h
  obtain⟨hp,g,d,tk,os⟩:=s;obtain⟨hl,hb,h⟩:=h
  wp_walk using wpAny_loadPart' hl,wpAny_loadPart' hb
  have hlt:i<items.size:=by omega
  have hlt2:i<items2.size:=by omega
  have hn1:i<ns.length:=by omega
  have hn2:i<ms.length:=by omega
  have hi1:items[((i:Nat):Int).toNat]?=some items[i]:=by simp[hlt]
  have hi2:items2[((i:Nat):Int).toNat]?=some items2[i]:=by simp[hlt2]
  have hc:((i:Int)+1)=((i+1:Nat):Int):=by push_cast;rfl
  obtain⟨t,e1⟩:∃t,items[i]=Value.int ns[i] t:=by
   obtain⟨t,e⟩:=VP hi (i:=i) (by simpa using hlt) hn1
   exact⟨t,by simpa using e⟩
  obtain⟨u,e2⟩:∃t,items2[i]=Value.int ms[i] t:=by
   obtain⟨t,e⟩:=VP hj (i:=i) (by simpa using hlt2) hn2
   exact⟨t,by simpa using e⟩
  rw[ZtS hn1,ZtS hn2,HT.JC] at h
  rw[hi1,hi2,e1,e2]
  obtain⟨e,he,hiff⟩:=HT.ZhA A.in1 ⟨hp,g,d,tk,os⟩ ns[i] t ms[i] u
  refine wpAny_bind (he prog w _ _ ?_)
  cases e with
  |true =>
   rw[if_pos (hiff.mp rfl)] at h
   wp_walk
   rw[hc]
   exact⟨plainId_quiet plain_eq_loop _,codeAny_builtin entry_eq_loop (by
    rw[Around.under_plainId plain_eq_loop _]
    exact ih (i+1) (by omega) (by omega) prog w A R _ ⟨hl,hb,h⟩)⟩
  |false =>
   rw[if_neg (fun q=>absurd (hiff.mpr q) Bool.false_ne_true)] at h
   wp_walk using wpAny_loadPart' hl,wpAny_loadPart' hb
   rw[hi1,hi2,e1,e2]
   have hri:=HT.ZgV A.in1 ⟨hp,g,d,tk,os⟩ ns[i] t ms[i] u prog w
   wp_walk using hri
   exact h
theorem Zbr (l b:Addr) (items items2:Array Value) (n n2:Nat) (dd dd2:Option Addr) (sl sl2:Array (Option Value)) (ns ms:List Int) (hi:IntsAre items.toList ns) (hj:IntsAre items2.toList ms) :
  Meets (Builtin.«list.__lt__» ⟨[.ref l,.ref b],[]⟩)
   (fun _ R s=>s.heap.get? l=some { cls:=.type "list",dict:=dd,data:=.seq items n,slots:=sl }/\s.heap.get? b=some { cls:=.type "list",dict:=dd2,data:=.seq items2 n2,slots:=sl2 } /\
    R (.ok (.ret (.bool (HT.ZL ns ms)))) s):=by
 intro prog w A R s h
 obtain⟨hp,g,d,tk,os⟩:=s;obtain⟨hl,hb,h⟩:=h
 have f3:=AutoSeq1.sub_list_list
 wp_walk using wpAny_loadPart' hl,wpAny_loadPart' hb
 exact⟨plainId_quiet plain_eq_loop _,codeAny_builtin entry_eq_loop (by
  rw[Around.under_plainId plain_eq_loop _]
  exact Zju l b items items2 n n2 dd dd2 sl sl2 ns ms hi hj _ 0 rfl (Zub _) prog w A R _ ⟨hl,hb,by simpa using h⟩)⟩
end
section
variable {prog:Program}{w:World}{A:Around}{E:Value->Shared->Prop}{s:Shared}
theorem ZdR {l b:Addr}{items items2:Array Value}{ns ms:List Int}{Q:Value->Shared->Prop} (hl:s.heap.IsList l items) (hb:s.heap.IsList b items2) (hi:IntsAre items.toList ns) (hj:IntsAre items2.toList ms)
  (hu:A.units<cLine) (h:Q (.bool (HT.ZL ns ms)) s):wpAny (model prog w) A (richCompare .Lt (.ref l) (.ref b)) Q E s:=by
 obtain⟨⟨cls,dd,data,sl⟩,ho,hc,n,hd⟩:=id hl
 obtain⟨⟨cls2,dd2,data2,sl2⟩,ho2,hc2,n2,hd2⟩:=id hb
 simp only at hc hd hc2 hd2
 subst hc hd hc2 hd2
 exact richCompare_meets_room (op:=.Lt) ⟨_,ho,rfl⟩ ⟨_,ho2,rfl⟩ PySem.F.slot_list_lt PySem.F.entry_list_lt (PySem.F.args_list_lt_2 _ _) (Zbr l b items items2 n n2 dd dd2 sl sl2 ns ms hi hj)
  ⟨ho,ho2,show Value.bool (HT.ZL ns ms)≠Value.notImplemented/\Q (.bool (HT.ZL ns ms)) s from ⟨(fun x=>nomatch x),h⟩⟩ hu
end
end HL
namespace L2
open PySem PySem.Spec PyProof.Rows
section
variable {X:Cx}
noncomputable def ZiX (K:W.Frag) (g:List Int->List Int->Bool):R2:=fun x y H Q=>∃a b ns ms,x=.ref a/\y=.ref b/\SqL K H a (ns.map V.int)/\SqL K H b (ms.map V.int)/\Q (.bl (g ns ms)) H
theorem ZkJ (hu:X.A.units+1<cLine):OpR X (compareOp .Lt) (ZiX X.K HT.ZL):=by
 intro pins s σ H x y v u Q I rx ry h
 obtain⟨a,b,ns,ms,rfl,rfl,ha,hb,q⟩:=h
 cases rx;cases ry
 obtain⟨its,r1,p1,_⟩:=I.list ha
 obtain⟨its2,r2,p2,_⟩:=I.list hb
 exact HL.ZdR p1.isList p2.isList (by simpa using VC r1) (by simpa using VC r2) (by omega) ⟨.bl (HT.ZL ns ms),H,I,rfl,q⟩
theorem ZhO (hc:X.calm=true):JX X (.builtin "sum") (fun xs H Q=>∃p,∃ns:List Int,xs=[.ref p]/\SqL X.K H p (ns.map V.int)/\Q (.int ns.sum) H):=by
 intro pins s σ H xs us Q I r h
 obtain⟨p,ns,rfl,hq,q⟩:=h
 obtain⟨u,rfl,rx⟩:=QE r
 cases rx
 obtain⟨its,r',pl,hz⟩:=I.list hq
 have hi:IntsAre its ns:=VC r'
 obtain⟨xs,hx⟩:=hi.allInts.items
 have hl':s.heap.IsList p (intItems xs):=hx▸pl.isList
 refine sum_intListG (I.ok.hd hc) hl' fun h' tk t' hk=>?_
 have e1:ns=xs.toList.map (·.1):=by
  rw[<- nums_intItems,<- hx]
  exact(show numsOf its.toArray.toList=ns from hi.numsOf).symm
 have e2:preSum (numAt xs) xs.size=ns.sum:=by
  rw[preSum_eq,Zue (by simp),e1]
 rw[e2]
 exact⟨.int ns.sum,H,I.kept hk,⟨_,rfl⟩,q⟩
theorem QC:∀{bs:List Bool}{us:List Value},Jb (bs.map V.bl) us->LSm.BoolsAre us bs
 |[],_,.nil=>.nil
 |b::bs,_,.cons r t=>by
  cases r
  exact .cons b (QC t)
theorem ZhP (hc:X.calm=true):JX X (.builtin "all") (fun xs H Q=>∃p,∃bs:List Bool,xs=[.ref p]/\SqL X.K H p (bs.map V.bl)/\Q (.bl (bs.all id)) H):=by
 intro pins s σ H xs us Q I r h
 obtain⟨p,bs,rfl,hq,q⟩:=h
 obtain⟨u,rfl,rx⟩:=QE r
 cases rx
 obtain⟨its,r',pl,hz⟩:=I.list hq
 have hb:=QC r'
 have hlt:p<s.heap.objs.size:=by obtain⟨_,e,_⟩:=pl.isList;exact Heap.lt_size e
 refine call_all_walk (wpAny_pyIter_list pl.isList ?_)
 refine⟨s.heap.objs.size,[s.heap.objs.size,p],[s.heap.objs.size],its.toArray.size,_,_,fun i=>(bs[i]?).getD true,rfl,Walks.list (A:=X.A.in1) (I.ok.hd hc) _ p (ZtU hlt) its.toArray,
  ⟨⟨_,Heap.get?_push_size _ rfl,rfl,rfl⟩,pl.isList.push _⟩,fun i v s' Q' E' hP hQ=>?_,fun h' tk hk=>?_⟩
 ·obtain⟨b,e,rfl⟩:=hb.get i v (by simpa using hP)
  dsimp only at hQ
  rw[e,ZuT] at hQ
  exact wpAny_truthy_bool hQ
 ·rw[ZtL,hb.length,LSm.range_all]
  exact⟨.bl (bs.all id),H,I.kept (LSm.kept_iter hk),rfl,q⟩
end
end L2
namespace HL
open PySem PyProof.Rows
section
end
section
open PySem.SeqAt
open PySem.AutoSeq1 (wpAny_loadPart')
open PySem.MeetsSeq PySem.MeetsSeq2 PySem.MeetsSeq3
end
end HL
namespace HL
open PySem
theorem V0:∀a:List Int,HT.ZL a a=false
 |[]=>rfl
 |x::xs=>by rw[HT.JC,if_pos rfl];exact V0 xs
theorem VN:∀{a b c:List Int},HT.ZL a b=true->HT.ZL b c=true->HT.ZL a c=true
 |[],[],_,h,_=>by simp[HT.ZL] at h
 |[],_::_,[],_,h=>by simp[HT.ZL] at h
 |[],_::_,_::_,_,_=>rfl
 |_::_,[],_,h,_=>by simp[HT.ZL] at h
 |_::_,_::_,[],_,h=>by simp[HT.ZL] at h
 |x::xs,y::ys,z::zs,h1,h2=>by
  rw[HT.JC] at h1 h2 ⊢
  by_cases e1:x=y
  ·rw[if_pos e1] at h1
   subst e1
   by_cases e2:x=z
   ·rw[if_pos e2] at h2 ⊢
    exact VN h1 h2
   ·rw[if_neg e2] at h2 ⊢
    exact h2
  ·rw[if_neg e1] at h1
   have h1':=of_decide_eq_true h1
   by_cases e2:y=z
   ·subst e2
    rw[if_neg e1]
    exact h1
   ·rw[if_neg e2] at h2
    have h2':=of_decide_eq_true h2
    rw[if_neg (by omega)]
    exact decide_eq_true (by omega)
theorem JH:∀{a b:List Int},HT.ZL a b=false->HT.ZL b a=false->a=b
 |[],[],_,_=>rfl
 |[],_::_,h,_=>by simp[HT.ZL] at h
 |_::_,[],_,h=>by simp[HT.ZL] at h
 |x::xs,y::ys,h1,h2=>by
  rw[HT.JC] at h1 h2
  by_cases e:x=y
  ·subst e
   rw[if_pos rfl] at h1 h2
   rw[JH h1 h2]
  ·rw[if_neg e] at h1
   rw[if_neg (Ne.symm e)] at h2
   have:=of_decide_eq_false h1
   have:=of_decide_eq_false h2
   omega
end HL
namespace L2
open PySem PySem.Spec PyProof.Rows
section
variable {X:Cx}
theorem Zgq (hc:X.calm=true):JX X (.builtin "min") (fun xs H Q=>∃p,∃ns:List Int,xs=[.ref p]/\SqL X.K H p (ns.map V.int)/\0<ns.length/\∀m,m∈ns->(∀a∈ns,m<=a)->Q (.int m) H):=by
 intro pins s σ H xs us Q I r h
 obtain⟨p,ns,rfl,hq,hne,q⟩:=h
 obtain⟨u,rfl,rx⟩:=QE r
 cases rx
 obtain⟨its,r',pl,hz⟩:=I.list hq
 have hi:IntsAre its ns:=VC r'
 obtain⟨zs,e⟩:=hi.allInts.items
 have hns:ns=zs.toList.map (·.1):=by rw[<- hi.numsOf,<- nums_intItems,<- e]
 have hsz:0<zs.size:=by
  have h3:=hne
  rw[hns,ZtG,ZtH] at h3
  exact h3
 have hl:=pl.isList
 rw[e] at hl
 refine min_intList (I.ok.hd hc) hl hsz fun v h' tk hv hk=>?_
 obtain⟨t,rfl⟩:=intItems_at hv
 obtain⟨h1,h2⟩:=argBest_lt (numAt zs) (zs.size-1)
 refine⟨.int _,H,I.kept hk,⟨_,rfl⟩,q _ ?_ fun a ha=>?_⟩
 ·rw[hns,numAt_eq];exact getD_mem (by rw[ZtG,ZtH];omega)
 ·rw[hns] at ha
  obtain⟨j,hj,rfl⟩:=mem_getD ha
  rw[ZtG,ZtH] at hj
  rw[<- numAt_eq];exact h2 j (by omega)
def Zk1 (K:W.Frag):List V->Hp->VK->Prop:=fun xs H Q=>∃p,∃ns:List Int,xs=[.ref p]/\SqL K H p (ns.map V.int)/\0<ns.length/\∀m,m∈ns->(∀a∈ns,m<=a)->Q (.int m) H
end
def Dfn (K:W.Frag) (mg:Str->Option Value) (x:Str) (st:Stmt):Prop:=∃f fd,Fun K x x st f fd/\mg x=some (.ref f)
noncomputable abbrev Zt (x:Str) (st:Stmt) (ps:List Str):Prop:=∀(kV doc pm:Value) (an:Option Addr) (cdv ct:Value) (us:List Value),us.length=ps.length ->
 bindArgs (PySem.W.fnOf x x (Z0 st) (Zu st) (Zh st) .none kV doc pm an cdv ct) ⟨us,[]⟩=pure (ps.zip us)
def Ok (P:Program) (w:World) (K:W.Frag) (mg:Str->Option Value) (base:Heap) (k:Nat) (x:Str) (ps:List Str) (sp:Sp):Prop:=
 ∃f fd,JB P w K mg base CX0 k f fd ps sp/\mg x=some (.ref f)/\PySem.W.keepIn K (.ref f)=true/\ZbL K fd ps []
theorem Vz {P:Program}{w:World}{K:W.Frag}{mg:Str->Option Value}{base:Heap}{k:Nat}{x:Str}{st:Stmt}{ps:List Str}{sp:Sp} (d:Dfn K mg x st) (b:Zt x st ps)
  (h:∀{f fd},Fun K x x st f fd->JB P w K mg base CX0 k f fd ps sp):Ok P w K mg base k x ps sp:=by
 obtain⟨f,fd,F,hm⟩:=d
 exact⟨f,fd,h F,hm,F.kp,F.binds b⟩
section
variable {X:Cx}{k:Nat}{x:Str}{ps:List Str}{sp:Sp}{p pos:Pos}{e:Expr}{es:List Expr}{t:TA}
noncomputable def Qc (sp:Sp) (t:TA):TE:=fun σ H Q=>t σ H fun vs H1=>sp vs H1 Q E0
theorem Zr (G:Ok X.prog X.w X.K X.mg X.base k x ps sp) (hr:UH k X.A) (hg:Gl X x) (ha:PA X (e::es) t) (hdb:(x==("__debug__":Str))=false:=by decide)
  (he:starEach (e::es) X.env=(false,eval e X.env)::starEach es X.env:=by rfl) (hpl:(backTo pos (starEach es X.env)).any (·.1)=false:=by rfl):PE X (.Call (.Name x p) (e::es) [] pos) (Qc sp t):=by
 obtain⟨f,fd,F,hm,hk,hb⟩:=G
 intro pins s σ H Q I h
 refine Zjf (CX:=CX0) (E:=E0) (dvs:=[]) F hr hg hm hk hb .nil Zk9 ha hdb he hpl pins s σ H Q I ?_
 have e:(fun vs H1=>sp (vs++[]) H1 Q E0)=fun vs H1=>sp vs H1 Q E0:=by funext vs H1;rw[Zu9]
 show t σ H (fun vs H1=>sp (vs++[]) H1 Q E0)
 rw[e]
 exact h
theorem ZeX (G:Ok X.prog X.w X.K X.mg X.base k x ps sp) (hr:UH k X.A) (hg:Gl X x) (hdb:(x==("__debug__":Str))=false:=by decide):PE X (.Call (.Name x p) [] [] pos) (Qc sp Zey):=by
 obtain⟨f,fd,F,hm,hk,hb⟩:=G
 exact Zhe (CX:=CX0) (E:=E0) (dvs:=[]) F hr hg hm hk hb .nil Zk9 hdb
theorem Zau {i:Int} (hm:∃t,X.mg x=some (.int i t)) (hg:Gl X x) (hd:(x==("__debug__":Str))=false:=by decide):PE X (.Name x pos) (tC (.int i)):=by
 obtain⟨t,hm⟩:=hm
 exact Zje (v:=.int i) hg hm ⟨t,rfl⟩ hd
theorem Zh7:Zmy X (Zk2 X.K):=by
 intro pins s σ H o i ov iv Q I ro ri h
 obtain⟨p,xs,i,z,rfl,rfl,hq,he,q⟩:=h
 cases ro
 obtain⟨t,rfl⟩:=ri
 obtain⟨its,r,pl,hz⟩:=I.list hq
 obtain⟨j,h1,h2,h3,h4,h5⟩:=ZaO he
 obtain⟨w,ew,rw'⟩:=r.get h2
 have hl:=r.length
 have hn:=Qx
 have fin:EP X pins σ Q w s:=⟨z,H,I,rw',q⟩
 by_cases h0:0<=i
 ·have hj:i.toNat=j:=by
   rw[seqIndex_of h0 h5] at h1
   exact Option.some.inj h1
  exact wpAny_getItem_list pl.isList h0 (by omega) (by rw[hj];simpa using ew) fin
 ·have hj:(i+(its.toArray.size:Int)).toNat=j:=by
   rw[seqIndex_neg (by omega) h4] at h1
   rw[ZtL,<- hl]
   exact Option.some.inj h1
  exact wpAny_getItem_list_neg pl.isList (by omega) (by rw[ZtL]<;>omega) (by omega) (by rw[hj];simpa using ew) fin
end
theorem Zgs {X:Cx}:JX X (.builtin "len") (fun xs H Q=>∃p ys,xs=[.ref p]/\(SqL X.K H p ys\/SqT X.K H p ys)/\Q (.int ys.length) H):=ZbG
theorem ZY:bootBuiltins "len"=some (.builtin "len"):=by decide +kernel
theorem ZF:bootBuiltins "isinstance"=some (.builtin "isinstance"):=by decide +kernel
theorem QD:bootBuiltins "sum"=some (.builtin "sum"):=by decide +kernel
theorem Zg0:bootBuiltins "all"=some (.builtin "all"):=by decide +kernel
theorem Zl3:bootBuiltins "min"=some (.builtin "min"):=by decide +kernel
theorem Js:bootBuiltins "list"=some (.type "list"):=by decide +kernel
theorem Zgv:bootBuiltins "int"=some (.type "int"):=by decide +kernel
theorem Zgw:bootBuiltins "bool"=some (.type "bool"):=by decide +kernel
theorem ZdH:bootBuiltins "tuple"=some (.type "tuple"):=by decide +kernel
section
variable {X:Cx}{K:W.Frag}
theorem Zp (e:X.K=K:=by rfl):IxR X (rIx K):=by subst e;exact ZkW
theorem Zw (e:X.K=K:=by rfl):JX X (.builtin "len") (fun xs H Q=>∃p ys,xs=[.ref p]/\(SqL K H p ys\/SqT K H p ys)/\Q (.int ys.length) H):=by subst e;exact Zgs
theorem JK (hc:X.calm=true) (e:X.K=K:=by rfl):JX X (.builtin "sum") (fun xs H Q=>∃p,∃ns:List Int,xs=[.ref p]/\SqL K H p (ns.map V.int)/\Q (.int ns.sum) H):=by subst e;exact ZhO hc
theorem QB (hc:X.calm=true) (e:X.K=K:=by rfl):JX X (.builtin "all") (fun xs H Q=>∃p,∃bs:List Bool,xs=[.ref p]/\SqL K H p (bs.map V.bl)/\Q (.bl (bs.all id)) H):=by subst e;exact ZhP hc
theorem Jl (e:X.K=K:=by rfl):JX X (.type "list") (fun xs H Q=>∃p ys,xs=[.ref p]/\(SqL K H p ys\/SqT K H p ys)/\∀l,H l=none->Q (.ref l) (upd H l (.lst ys))):=by subst e;exact ZbF
theorem Zaq (e:X.K=K:=by rfl):SlR X (ZlU K):=by subst e;exact ZiQ
theorem ZfL (e:X.K=K:=by rfl):Zmy X (Zk2 K):=by subst e;exact Zh7
theorem Jk {tg l:Expr}{tl:TE} (hl:PE X l tl) (e:X.K=K:=by rfl):PI X tg l (Zj1 K tl):=by subst e;exact Zjc hl
variable {u:TS}{H:Hp}{b:TA}
theorem Zdx {n:Nat}{k:Int} (h0:0<=k) (h1:k<n):ixN n k=some k.toNat:=by unfold ixN;rw[if_pos h0,if_pos h1]
theorem Z7.upd {H H':Hp}{p:Addr}{o:HO} (h:Z7 H H') (hp:H p=none):Z7 H (upd H' p o):=fun b u e=>by
 rw[Z1 (ZR e hp)]
 exact h b u e
theorem Z7.new {H:Hp}{p:Addr}{o:HO} (hp:H p=none):Z7 H (L2.upd H p o):=Z7.upd (Z7.refl H) hp
theorem UT {n:Nat} (h:n<=1000):n<=sizeLine:=ZtV h (by decide)
end
inductive Sh where
 |dk (ks:List Key)|dt (ks:List (List Key))|ob (n:Str) (fs:List Str)
  |jk
inductive PV where
 |non|bl (b:Bool)|int (i:Int)|str (x:Str)|lst (xs:List PV)|tup (xs:List PV)
  |exc (n:Str)
  |exa (n:Str) (i:Int)
  |box (p:Option Addr) (s:Sh) (xs:List PV)
mutual
noncomputable def PV.flat:PV->Bool
 |.lst _=>false
 |.tup xs=>PV.flats xs
 |.non=>true
 |.bl _=>true
 |.int _=>true
 |.str _=>true
 |.exc _=>true
 |.exa _ _=>true
 |.box _ _ _=>false
noncomputable def PV.flats:List PV->Bool
 |[]=>true
 |x::xs=>x.flat&&PV.flats xs
end
def KL (K:W.Frag) (a:Addr) (xs:List V):Prop:=
 ∃(o:Obj) (its:Array Value) (n:Nat),K.lookup a=some o/\o.cls=.type "list"/\o.dict=none/\o.data=.seq its n/\its.size<=sizeLine/\Jb xs its.toList
noncomputable def ImO:HO->Prop
 |.tup _=>True
 |.frz _ _=>True
 |.xd _=>True
 |_=>False
def Im (K:W.Frag) (H:Hp) (a:Addr) (u:HO):Prop:=H a=some u/\ImO u
noncomputable def Lvo:HO->Prop
 |.lst _=>True
 |.dK _=>True
 |.dT _=>True
 |.ins _ _ _=>True
 |_=>False
noncomputable abbrev LvO:={ u:HO // Lvo u }
def ZjP (K:W.Frag) (n:Str) (C:Addr):Prop:=PySem.W.nsIn K mainGlobals n=some (some (.ref C))
def Zl9 (K:W.Frag) (H:Hp) (n:Str) (v:V):Prop:=∃a o C,v=.ref a/\Im K H a (.frz o (.own a))/\o.cls=.ref C/\o.dict=none/\PySem.W.notCls o=true/\ZjP K n C
def ZlA (K:W.Frag) (H:Hp) (n:Str) (i:Int) (v:V):Prop:=∃a o C d fs,v=.ref a/\Im K H a (.frz o (.own a))/\Im K H d (.xd fs)/\o.cls=.ref C/\o.dict=some d/\PySem.W.notCls o=true/\ZjP K n C/\fs=[(("at":Str),V.int i)]
noncomputable def Zkf (K:W.Frag):Sh->List V->HO->Prop
 |.dk ks,vs,u=>ks.length=vs.length/\u=.dK (ks.zip vs)
 |.dt ks,vs,u=>ks.length=vs.length/\u=.dT (ks.zip vs)
 |.ob n fs,vs,u=>fs.length=vs.length/\∃C dx,u=.ins C dx (fs.zip vs)/\ZjP K n C
 |.jk,vs,u=>vs=[]/\∃ws,u=.lst ws
def ZlK (p:Option Addr) (a:Addr):Prop:=match p with
 |none=>True
 |some b=>a=b
theorem Zkf.lv {K:W.Frag}{s:Sh}{vs:List V}{u:HO} (h:Zkf K s vs u):Lvo u:=by
 cases s with
 |dk ks=>obtain⟨_,rfl⟩:=h;trivial
 |dt ks=>obtain⟨_,rfl⟩:=h;trivial
 |ob n fs=>obtain⟨_,C,dx,rfl,_⟩:=h;trivial
 |jk=>obtain⟨_,ws,rfl⟩:=h;trivial
theorem Za4 {u o:HO} (h:Lvo u) (h':ImO o):o≠u:=by
 intro e;subst e
 cases o<;>first|exact h|exact h'
mutual
noncomputable def Rep (K:W.Frag) (H:Hp) (S:Addr->Prop):PV->V->Prop
 |.non,v=>v=.non
 |.bl b,v=>v=.bl b
 |.int i,v=>v=.int i
 |.str x,v=>v=.str x
 |.exc n,v=>Zl9 K H n v
 |.exa n i,v=>ZlA K H n i v
 |.box p s xs,v=>∃a vs u,v=.ref a/\(Rd H a u/\S a)/\(ZlK p a/\Zkf K s vs u)/\Reps K H S xs vs
 |.lst xs,v=>∃a vs,v=.ref a/\((Rd H a (.lst vs)/\S a)\/KL K a vs)/\Reps K H S xs vs
 |.tup xs,v=>∃a vs,v=.ref a/\Im K H a (.tup vs)/\Reps K H S xs vs
noncomputable def Reps (K:W.Frag) (H:Hp) (S:Addr->Prop):List PV->List V->Prop
 |[],vs=>vs=[]
 |x::xs,vs=>∃v r,vs=v::r/\Rep K H S x v/\Reps K H S xs r
end
mutual
noncomputable def ZZ (K:W.Frag) (H:Hp):PV->V->List Addr->Prop
 |.non,v,F=>v=.non/\F=[]
 |.bl b,v,F=>v=.bl b/\F=[]
 |.int i,v,F=>v=.int i/\F=[]
 |.str x,v,F=>v=.str x/\F=[]
 |.exc n,v,F=>Zl9 K H n v/\F=[]
 |.exa n i,v,F=>ZlA K H n i v/\F=[]
 |.box p s xs,v,F=>∃a vs u G,v=.ref a/\H a=some u/\(ZlK p a/\Zkf K s vs u)/\Trees K H xs vs G/\a ∉ G/\F=a::G
 |.lst xs,v,F=>∃a vs G,v=.ref a/\H a=some (.lst vs)/\Trees K H xs vs G/\a ∉ G/\F=a::G
 |.tup xs,v,F=>∃a vs,v=.ref a/\Im K H a (.tup vs)/\Trees K H xs vs F
noncomputable def Trees (K:W.Frag) (H:Hp):List PV->List V->List Addr->Prop
 |[],vs,F=>vs=[]/\F=[]
 |x::xs,vs,F=>∃v r G1 G2,vs=v::r/\ZZ K H x v G1/\Trees K H xs r G2/\(∀a∈G1,a ∉ G2)/\F=G1++G2
end
section
variable {K:W.Frag}{H H':Hp}{S S':Addr->Prop}
mutual
theorem Rep.mono (h1:∀a u,S a->Rd H a u->Rd H' a u/\S' a) (h2:∀a u,Im K H a u->Im K H' a u):∀{x:PV}{v:V},Rep K H S x v->Rep K H' S' x v
 |.non,_,h=>h
 |.bl _,_,h=>h
 |.int _,_,h=>h
 |.str _,_,h=>h
 |.exc n,_,h=>let ⟨a,o,C,e1,e2,e3⟩:=h;⟨a,o,C,e1,h2 a _ e2,e3⟩
 |.exa n i,_,h=>let ⟨a,o,C,d,fs,e1,e2,e2',e3⟩:=h;⟨a,o,C,d,fs,e1,h2 a _ e2,h2 d _ e2',e3⟩
 |.box p s xs,_,h=>by
  obtain⟨a,vs,u,rfl,⟨n1,n2⟩,hb,hr⟩:=h
  exact⟨a,vs,u,rfl,h1 a u n2 n1,hb,Reps.mono h1 h2 hr⟩
 |.lst xs,_,h=>by
  obtain⟨a,vs,rfl,hn,hr⟩:=h
  refine⟨a,vs,rfl, ?_,Reps.mono h1 h2 hr⟩
  rcases hn with ⟨n1,n2⟩|n
  ·exact .inl (h1 a _ n2 n1)
  ·exact .inr n
 |.tup xs,_,h=>by
  obtain⟨a,vs,rfl,hn,hr⟩:=h
  exact⟨a,vs,rfl,h2 a _ hn,Reps.mono h1 h2 hr⟩
theorem Reps.mono (h1:∀a u,S a->Rd H a u->Rd H' a u/\S' a) (h2:∀a u,Im K H a u->Im K H' a u):∀{xs:List PV}{vs:List V},Reps K H S xs vs->Reps K H' S' xs vs
 |[],_,h=>h
 |x::xs,_,h=>by
  obtain⟨v,r,rfl,h3,h4⟩:=h
  exact⟨v,r,rfl,Rep.mono h1 h2 h3,Reps.mono h1 h2 h4⟩
end
mutual
theorem ZZ.mono:∀{x:PV}{v:V}{F:List Addr},(∀a∈F,∀o,H a=some o->H' a=some o)->(∀a vs,Im K H a vs->Im K H' a vs)->ZZ K H x v F->ZZ K H' x v F
 |.non,_,_,_,_,h=>h
 |.bl _,_,_,_,_,h=>h
 |.int _,_,_,_,_,h=>h
 |.str _,_,_,_,_,h=>h
 |.exc n,_,_,_,h2,h=>let ⟨⟨a,o,C,e1,e2,e3⟩,e4⟩:=h;⟨⟨a,o,C,e1,h2 a _ e2,e3⟩,e4⟩
 |.exa n i,_,_,_,h2,h=>let ⟨⟨a,o,C,d,fs,e1,e2,e2',e3⟩,e4⟩:=h;⟨⟨a,o,C,d,fs,e1,h2 a _ e2,h2 d _ e2',e3⟩,e4⟩
 |.box p s xs,_,_,h1,h2,h=>by
  obtain⟨a,vs,u,G,rfl,ha,hb,ht,hn,rfl⟩:=h
  exact⟨a,vs,u,G,rfl,h1 a (by simp) _ ha,hb,Trees.mono (fun b hb o e=>h1 b (by simp[hb]) o e) h2 ht,hn,rfl⟩
 |.lst xs,_,_,h1,h2,h=>by
  obtain⟨a,vs,G,rfl,ha,ht,hn,rfl⟩:=h
  exact⟨a,vs,G,rfl,h1 a (by simp) _ ha,Trees.mono (fun b hb o e=>h1 b (by simp[hb]) o e) h2 ht,hn,rfl⟩
 |.tup xs,_,_,h1,h2,h=>by
  obtain⟨a,vs,rfl,ha,ht⟩:=h
  exact⟨a,vs,rfl,h2 a _ ha,Trees.mono h1 h2 ht⟩
theorem Trees.mono:∀{xs:List PV}{vs:List V}{F:List Addr},(∀a∈F,∀o,H a=some o->H' a=some o)->(∀a vs,Im K H a vs->Im K H' a vs)->Trees K H xs vs F->Trees K H' xs vs F
 |[],_,_,_,_,h=>h
 |x::xs,_,_,h1,h2,h=>by
  obtain⟨v,r,G1,G2,rfl,h3,h4,hd,rfl⟩:=h
  exact⟨v,r,G1,G2,rfl,ZZ.mono (fun b hb o e=>h1 b (by simp[hb]) o e) h2 h3,Trees.mono (fun b hb o e=>h1 b (by simp[hb]) o e) h2 h4,hd,rfl⟩
end
mutual
theorem ZZ.rep:∀{x:PV}{v:V}{F:List Addr},(∀a∈F,S a)->ZZ K H x v F->Rep K H S x v
 |.non,_,_,_,h=>h.1
 |.bl _,_,_,_,h=>h.1
 |.int _,_,_,_,h=>h.1
 |.str _,_,_,_,h=>h.1
 |.exc _,_,_,_,h=>h.1
 |.exa _ _,_,_,_,h=>h.1
 |.box p s xs,_,_,h1,h=>by
  obtain⟨a,vs,u,G,rfl,ha,hb,ht,hn,rfl⟩:=h
  exact⟨a,vs,u,rfl,⟨.inl ha,h1 a (by simp)⟩,hb,Trees.reps (fun b hb=>h1 b (by simp[hb])) ht⟩
 |.lst xs,_,_,h1,h=>by
  obtain⟨a,vs,G,rfl,ha,ht,hn,rfl⟩:=h
  exact⟨a,vs,rfl,.inl ⟨.inl ha,h1 a (by simp)⟩,Trees.reps (fun b hb=>h1 b (by simp[hb])) ht⟩
 |.tup xs,_,_,h1,h=>by
  obtain⟨a,vs,rfl,ha,ht⟩:=h
  exact⟨a,vs,rfl,ha,Trees.reps h1 ht⟩
theorem Trees.reps:∀{xs:List PV}{vs:List V}{F:List Addr},(∀a∈F,S a)->Trees K H xs vs F->Reps K H S xs vs
 |[],_,_,_,h=>h.1
 |x::xs,_,_,h1,h=>by
  obtain⟨v,r,G1,G2,rfl,h3,h4,hd,rfl⟩:=h
  exact⟨v,r,rfl,ZZ.rep (fun b hb=>h1 b (by simp[hb])) h3,Trees.reps (fun b hb=>h1 b (by simp[hb])) h4⟩
end
mutual
theorem ZZ.alive:∀{x:PV}{v:V}{F:List Addr},ZZ K H x v F->∀a∈F,∃vs:LvO,H a=some vs.1
 |.non,_,_,h=>by rw[h.2];simp
 |.bl _,_,_,h=>by rw[h.2];simp
 |.int _,_,_,h=>by rw[h.2];simp
 |.str _,_,_,h=>by rw[h.2];simp
 |.exc _,_,_,h=>by rw[h.2];simp
 |.exa _ _,_,_,h=>by rw[h.2];simp
 |.box p s xs,_,_,h=>by
  obtain⟨a,vs,u,G,rfl,ha,hb,ht,hn,rfl⟩:=h
  intro b hb'
  rcases ZtN.mp hb' with rfl|hb'
  ·exact⟨⟨u,hb.2.lv⟩,ha⟩
  ·exact Trees.alive ht b hb'
 |.lst xs,_,_,h=>by
  obtain⟨a,vs,G,rfl,ha,ht,hn,rfl⟩:=h
  intro b hb
  rcases ZtN.mp hb with rfl|hb
  ·exact⟨⟨.lst vs,trivial⟩,ha⟩
  ·exact Trees.alive ht b hb
 |.tup xs,_,_,h=>by
  obtain⟨a,vs,rfl,ha,ht⟩:=h
  exact Trees.alive ht
theorem Trees.alive:∀{xs:List PV}{vs:List V}{F:List Addr},Trees K H xs vs F->∀a∈F,∃vs:LvO,H a=some vs.1
 |[],_,_,h=>by rw[h.2];simp
 |x::xs,_,_,h=>by
  obtain⟨v,r,G1,G2,rfl,h3,h4,hd,rfl⟩:=h
  intro b hb
  rcases ZtD.mp hb with hb|hb
  ·exact ZZ.alive h3 b hb
  ·exact Trees.alive h4 b hb
end
mutual
theorem Rep.tree:∀{x:PV}{v:V},x.flat=true->Rep K H S x v->ZZ K H x v []
 |.non,_,_,h=>⟨h,rfl⟩
 |.bl _,_,_,h=>⟨h,rfl⟩
 |.int _,_,_,h=>⟨h,rfl⟩
 |.str _,_,_,h=>⟨h,rfl⟩
 |.exc _,_,_,h=>⟨h,rfl⟩
 |.exa _ _,_,_,h=>⟨h,rfl⟩
 |.box p s xs,_,f,_=>by simp[PV.flat] at f
 |.lst xs,_,f,_=>by simp[PV.flat] at f
 |.tup xs,_,f,h=>by
  obtain⟨a,vs,rfl,ha,ht⟩:=h
  exact⟨a,vs,rfl,ha,Reps.trees (by simpa[PV.flat] using f) ht⟩
theorem Reps.trees:∀{xs:List PV}{vs:List V},PV.flats xs=true->Reps K H S xs vs->Trees K H xs vs []
 |[],_,_,h=>⟨h,rfl⟩
 |x::xs,_,f,h=>by
  obtain⟨v,r,rfl,h3,h4⟩:=h
  simp only[PV.flats,Bool.and_eq_true] at f
  exact⟨v,r,[],[],rfl,Rep.tree f.1 h3,Reps.trees f.2 h4,by simp,rfl⟩
end
theorem Rep.any (h:Rep K H S x v):Rep K H (fun _=>True) x v:=Rep.mono (fun a vs _ r=>⟨r,trivial⟩) (fun a vs r=>r) h
theorem Reps.any (h:Reps K H S xs vs):Reps K H (fun _=>True) xs vs:=Reps.mono (fun a vs _ r=>⟨r,trivial⟩) (fun a vs r=>r) h
theorem Rep.flatS {x:PV}{v:V} (f:x.flat=true) (h:Rep K H S x v):Rep K H S' x v:=ZZ.rep (F:=[]) (by simp) (Rep.tree f h)
theorem Reps.length:∀{xs:List PV}{vs:List V},Reps K H S xs vs->vs.length=xs.length
 |[],_,h=>by rw[h];rfl
 |x::xs,_,h=>by
  obtain⟨v,r,rfl,h3,h4⟩:=h
  simp[Reps.length h4]
theorem Trees.length {xs:List PV}{vs:List V}{F:List Addr} (h:Trees K H xs vs F):vs.length=xs.length:=(Trees.reps (S:=fun _=>True) (fun _ _=>trivial) h).length
theorem Reps.get:∀{xs:List PV}{vs:List V}{i:Nat}{x:PV},Reps K H S xs vs->xs[i]?=some x->∃v,vs[i]?=some v/\Rep K H S x v
 |[],_,_,_,_,e=>by simp at e
 |y::xs,_,0,x,h,e=>by
  obtain⟨v,r,rfl,h3,h4⟩:=h
  simp at e;subst e
  exact⟨v,rfl,h3⟩
 |y::xs,_,i+1,x,h,e=>by
  obtain⟨v,r,rfl,h3,h4⟩:=h
  obtain⟨w,e1,e2⟩:=Reps.get (i:=i) h4 (by simpa using e)
  exact⟨w,by simpa using e1,e2⟩
theorem Reps.append:∀{xs ys:List PV}{vs ws:List V},Reps K H S xs vs->Reps K H S ys ws->Reps K H S (xs++ys) (vs++ws)
 |[],_,_,_,h,h'=>by rw[h];exact h'
 |x::xs,_,_,_,h,h'=>by
  obtain⟨v,r,rfl,h3,h4⟩:=h
  exact⟨v,r++_,rfl,h3,Reps.append h4 h'⟩
theorem Reps.one {x:PV}{v:V} (h:Rep K H S x v):Reps K H S [x] [v]:=⟨v,[],rfl,h,rfl⟩
theorem Reps.take:∀{xs:List PV}{vs:List V} (n:Nat),Reps K H S xs vs->Reps K H S (xs.take n) (vs.take n)
 |_,_,0,_=>by simp[Reps]
 |[],_,n+1,h=>by rw[h];rfl
 |y::xs,_,n+1,h=>by
  obtain⟨w,r,rfl,h3,h4⟩:=h
  exact⟨w,r.take n,rfl,h3,Reps.take n h4⟩
theorem Reps.drop:∀{xs:List PV}{vs:List V} (n:Nat),Reps K H S xs vs->Reps K H S (xs.drop n) (vs.drop n)
 |_,_,0,h=>h
 |[],_,n+1,h=>by rw[h];rfl
 |y::xs,_,n+1,h=>by
  obtain⟨w,r,rfl,h3,h4⟩:=h
  exact Reps.drop n h4
theorem Trees.append:∀{xs ys:List PV}{vs ws:List V}{F G:List Addr},Trees K H xs vs F->Trees K H ys ws G->(∀a∈F,a ∉ G)->Trees K H (xs++ys) (vs++ws) (F++G)
 |[],_,_,_,_,_,h,h',_=>by rw[h.1,h.2];exact h'
 |x::xs,_,_,_,_,_,h,h',hd=>by
  obtain⟨v,r,G1,G2,rfl,h3,h4,hd',rfl⟩:=h
  refine⟨v,r++_,G1,G2++_,rfl,h3,Trees.append h4 h' (fun a ha=>hd a (by simp[ha])),fun a ha z=>?_,by simp⟩
  rcases ZtD.mp z with z|z
  ·exact hd' a ha z
  ·exact hd a (by simp[ha]) z
theorem Trees.one {x:PV}{v:V}{F:List Addr} (h:ZZ K H x v F):Trees K H [x] [v] F:=⟨v,[],F,[],rfl,h,⟨rfl,rfl⟩,by simp,by simp⟩
theorem PV.flats_all:∀{xs:List PV},PV.flats xs=true ↔ ∀x∈xs,x.flat=true
 |[]=>by simp[PV.flats]
 |x::xs=>by simp[PV.flats,PV.flats_all (xs:=xs)]
theorem PV.flats_ints (ns:List Int):PV.flats (ns.map PV.int)=true:=PV.flats_all.mpr (by simp[PV.flat])
theorem Rd.same (e:Z7 H H') (h:Rd H a u):Rd H' a u:=by
 rcases h with h|⟨o,h⟩
 ·exact .inl (e _ _ h)
 ·exact .inr ⟨o,e _ _ h⟩
theorem Z7.im (e:Z7 H H') {k:HO} (h:Im K H a k):Im K H' a k:=⟨e _ _ h.1,h.2⟩
theorem Im.sqT {vs:List V} (h:Im K H a (.tup vs)):SqT K H a vs:=.inl (.inl h.1)
theorem Rep.same (e:Z7 H H') (h:Rep K H S x v):Rep K H' S x v:=Rep.mono (fun a vs s r=>⟨r.same e,s⟩) (fun a vs r=>e.im r) h
theorem Reps.same (e:Z7 H H') (h:Reps K H S xs vs):Reps K H' S xs vs:=Reps.mono (fun a vs s r=>⟨r.same e,s⟩) (fun a vs r=>e.im r) h
theorem ZZ.same (e:Z7 H H') (h:ZZ K H x v F):ZZ K H' x v F:=ZZ.mono (fun a _ o q=>e a o q) (fun a vs r=>e.im r) h
theorem Trees.same (e:Z7 H H') (h:Trees K H xs vs F):Trees K H' xs vs F:=Trees.mono (fun a _ o q=>e a o q) (fun a vs r=>e.im r) h
theorem Im.putL {p:Addr}{us:LvO}{o:HO}{k:HO} (hp:H p=some us.1) (h:Im K H a k):Im K (upd H p o) a k:=
 ⟨by rw[Z1 (Zjp h.1 hp (Za4 us.2 h.2))];exact h.1,h.2⟩
theorem Im.put {p:Addr}{us:List V}{o:HO}{k:HO} (hp:H p=some (.lst us)) (h:Im K H a k):Im K (upd H p o) a k:=Im.putL (us:=⟨.lst us,trivial⟩) hp h
theorem SqT.put {p:Addr}{us:List V}{o:HO} (hp:H p=some (.lst us)) (h:Im K H a (.tup vs)):Im K (upd H p o) a (.tup vs):=Im.put hp h
theorem ZZ.putL {p:Addr}{us:LvO}{o:HO} (hp:H p=some us.1) (hS:p ∉ F) (h:ZZ K H x v F):ZZ K (upd H p o) x v F:=
 ZZ.mono (fun a ha o q=>by
  have hne:a≠p:=fun z=>hS (z▸ha)
  rw[Z1 hne];exact q) (fun a vs r=>Im.putL hp r) h
theorem Trees.putL {p:Addr}{us:LvO}{o:HO} (hp:H p=some us.1) (hS:p ∉ F) (h:Trees K H xs vs F):Trees K (upd H p o) xs vs F:=
 Trees.mono (fun a ha o q=>by
  have hne:a≠p:=fun z=>hS (z▸ha)
  rw[Z1 hne];exact q) (fun a vs r=>Im.putL hp r) h
theorem ZZ.put {p:Addr}{us:List V}{o:HO} (hp:H p=some (.lst us)) (hS:p ∉ F) (h:ZZ K H x v F):ZZ K (upd H p o) x v F:=ZZ.putL (us:=⟨.lst us,trivial⟩) hp hS h
theorem Trees.put {p:Addr}{us:List V}{o:HO} (hp:H p=some (.lst us)) (hS:p ∉ F) (h:Trees K H xs vs F):Trees K (upd H p o) xs vs F:=Trees.putL (us:=⟨.lst us,trivial⟩) hp hS h
end
inductive Md|U|P|S|T|O
 deriving DecidableEq
def NO (B:Addr->Prop) (F:Nat->List Addr) (R:List Addr) (a:Addr):Prop:=B a/\a ∉ R/\∀i,a ∉ F i
def VM (K:W.Frag) (H:Hp) (S:Addr->Prop) (m:Md) (x:PV) (o:Option (Option V)) (G:List Addr):Prop:=match m with
 |.U=>G=[]
 |.P=>G=[]/\∃v,o=some (some v)/\x.flat=true/\Rep K H (fun _=>True) x v
 |.S=>G=[]/\∃v,o=some (some v)/\Rep K H S x v
 |.T=>∃a vs xs,o=some (some (.ref a))/\x=.lst xs/\H a=some (.lst vs)/\Reps K H S xs vs/\G=[a]
 |.O=>∃v,o=some (some v)/\ZZ K H x v G
structure Ag (K:PySem.W.Frag) (B:Addr->Prop) (H0 H:Hp) (σ:St) (Γ:List Md) (ρ:List PV) (F:Nat->List Addr) (R:List Addr):Prop where
 same:Z7 H0 H
 own:∀a,H0 a=none->B a
 young:∀i,∀a∈F i,H0 a=none
 youngR:∀a∈R,H0 a=none
 live:∀i,∀a∈F i,∃vs:LvO,H a=some vs.1
 liveR:∀a∈R,∃vs:LvO,H a=some vs.1
 disj:∀i j,i≠j->∀a∈F i,a ∉ F j
 disjR:∀i,∀a∈F i,a ∉ R
 lenS:σ.length=Γ.length
 lenR:ρ.length=Γ.length
 slot:∀i,VM K H (NO B F R) (Γ.getD i .U) (ρ.getD i .non) σ[i]? (F i)
theorem VM.mono {K:W.Frag}{H H':Hp}{S S':Addr->Prop}{m:Md}{x:PV}{o:Option (Option V)}{G:List Addr} (h:VM K H S m x o G) (h1:∀a u,S a->Rd H a u->Rd H' a u/\S' a)
  (h2:∀a u,Im K H a u->Im K H' a u) (h3:∀a∈G,∀u,H a=some u->H' a=some u):VM K H' S' m x o G:=by
 cases m with
 |U=>exact h
 |P =>
  obtain⟨e,v,h4,h5,h6⟩:=h
  exact⟨e,v,h4,h5,ZZ.rep (F:=[]) (by simp) (ZZ.mono (by simp) h2 (Rep.tree h5 h6))⟩
 |S =>
  obtain⟨e,v,h4,h5⟩:=h
  exact⟨e,v,h4,Rep.mono h1 h2 h5⟩
 |T =>
  obtain⟨a,vs,xs,h4,h5,h6,h7,rfl⟩:=h
  exact⟨a,vs,xs,h4,h5,h3 a (by simp) _ h6,Reps.mono h1 h2 h7,rfl⟩
 |O =>
  obtain⟨v,h4,h5⟩:=h
  exact⟨v,h4,ZZ.mono (fun a ha o q=>h3 a ha o q) h2 h5⟩
section
variable {K:W.Frag}{B:Addr->Prop}{H0 H H':Hp}{σ:St}{Γ:List Md}{ρ:List PV}{F:Nat->List Addr}{R R':List Addr}
theorem Ag.grow (A:Ag K B H0 H σ Γ ρ F R) (e:Z7 H H'):Ag K B H0 H' σ Γ ρ F R:=
 ⟨A.same.trans e,A.own,A.young,A.youngR,fun i a ha=>let ⟨vs,q⟩:=A.live i a ha;⟨vs,e _ _ q⟩,fun a ha=>let ⟨vs,q⟩:=A.liveR a ha;⟨vs,e _ _ q⟩,A.disj,A.disjR,A.lenS,A.lenR,
  fun i=>(A.slot i).mono (fun a vs s r=>⟨r.same e,s⟩) (fun a vs r=>e.im r) fun a ha vs q=>e _ _ q⟩
theorem Ag.less (A:Ag K B H0 H σ Γ ρ F R) (h:∀a∈R',a∈R):Ag K B H0 H σ Γ ρ F R':=
 ⟨A.same,A.own,A.young,fun a ha=>A.youngR a (h a ha),A.live,fun a ha=>A.liveR a (h a ha),A.disj,fun i a ha z=>A.disjR i a ha (h a z),A.lenS,A.lenR,
  fun i=>(A.slot i).mono (fun a vs s r=>⟨r,s.1,fun z=>s.2.1 (h a z),s.2.2⟩) (fun a vs r=>r) fun a ha vs q=>q⟩
theorem Ag.more {G:List Addr} (A:Ag K B H0 H σ Γ ρ F R) (e:Z7 H H') (hf:∀a∈G,H a=none) (hl:∀a∈G,∃vs:LvO,H' a=some vs.1):Ag K B H0 H' σ Γ ρ F (G++R):=by
 refine⟨A.same.trans e,A.own,A.young,fun a ha=>?_,fun i a ha=>let ⟨vs,q⟩:=A.live i a ha;⟨vs,e _ _ q⟩,fun a ha=>?_,A.disj,fun i a ha z=>?_,A.lenS,A.lenR,fun i=>?_⟩
 ·rcases ZtD.mp ha with z|z
  ·exact A.same.free (hf a z)
  ·exact A.youngR a z
 ·rcases ZtD.mp ha with z|z
  ·exact hl a z
  ·obtain⟨vs,q⟩:=A.liveR a z
   exact⟨vs,e _ _ q⟩
 ·rcases ZtD.mp z with z|z
  ·obtain⟨vs,q⟩:=A.live i a ha
   rw[hf a z] at q;cases q
  ·exact A.disjR i a ha z
 ·refine(A.slot i).mono (fun a vs s r=>⟨r.same e,s.1,fun z=>?_,s.2.2⟩) (fun a vs r=>e.im r) fun a ha vs q=>e _ _ q
  rcases ZtD.mp z with z|z
  ·have:=hf a z
   rcases r with r|⟨o,r⟩<;>(rw[this] at r;cases r)
  ·exact s.2.1 z
theorem Ag.fresh (A:Ag K B H0 H σ Γ ρ F R) {p:Addr} (hp:H p=none):p ∉ R/\(∀i,p ∉ F i)/\H0 p=none/\B p:=by
 refine⟨fun z=>?_,fun i z=>?_,A.same.free hp,A.own p (A.same.free hp)⟩
 ·obtain⟨vs,q⟩:=A.liveR p z
  rw[hp] at q;cases q
 ·obtain⟨vs,q⟩:=A.live i p z
  rw[hp] at q;cases q
theorem Ag.new {p:Addr}{xs:List V} (A:Ag K B H0 H σ Γ ρ F R) (hp:H p=none):Ag K B H0 (upd H p (.lst xs)) σ Γ ρ F (p::R):=
 A.more (G:=[p]) (Z7.new hp) (fun a ha=>by rw[ZtQ.mp ha];exact hp) fun a ha=>⟨⟨.lst xs,trivial⟩,by rw[ZtQ.mp ha,ZD]⟩
theorem Ag.newB {p:Addr}{u:HO} (hu:Lvo u) (A:Ag K B H0 H σ Γ ρ F R) (hp:H p=none):Ag K B H0 (upd H p u) σ Γ ρ F (p::R):=
 A.more (G:=[p]) (Z7.new hp) (fun a ha=>by rw[ZtQ.mp ha];exact hp) fun a ha=>⟨⟨u,hu⟩,by rw[ZtQ.mp ha,ZD]⟩
theorem Ag.getO {i:Nat} (A:Ag K B H0 H σ Γ ρ F R) (h:Γ[i]?=some .O):∃v,σ[i]?=some (some v)/\ZZ K H (ρ.getD i .non) v (F i):=by
 have:=A.slot i
 rw[Zt8,h] at this
 exact this
theorem Ag.getT {i:Nat} (A:Ag K B H0 H σ Γ ρ F R) (h:Γ[i]?=some .T):∃a vs xs,σ[i]?=some (some (.ref a))/\ρ.getD i .non=.lst xs/\H a=some (.lst vs)/\Reps K H (NO B F R) xs vs/\F i=[a]:=by
 have:=A.slot i
 rw[Zt8 (l:=Γ),h] at this
 exact this
theorem Ag.getS {i:Nat} (A:Ag K B H0 H σ Γ ρ F R) (h:Γ[i]?=some .S):∃v,σ[i]?=some (some v)/\Rep K H (NO B F R) (ρ.getD i .non) v:=by
 have:=A.slot i
 rw[Zt8 (l:=Γ),h] at this
 exact this.2
theorem Ag.getP {i:Nat} (A:Ag K B H0 H σ Γ ρ F R) (h:Γ[i]?=some .P):∃v,σ[i]?=some (some v)/\(ρ.getD i .non).flat=true/\Rep K H (fun _=>True) (ρ.getD i .non) v:=by
 have:=A.slot i
 rw[Zt8 (l:=Γ),h] at this
 exact this.2
theorem Ag.getA {i:Nat}{m:Md} (A:Ag K B H0 H σ Γ ρ F R) (h:Γ[i]?=some m) (hm:m≠.U):∃v,σ[i]?=some (some v)/\Rep K H (fun _=>True) (ρ.getD i .non) v:=by
 cases m with
 |U=>exact absurd rfl hm
 |P=>obtain⟨v,h1,h2,h3⟩:=A.getP h;exact⟨v,h1,h3⟩
 |S=>obtain⟨v,h1,h2⟩:=A.getS h;exact⟨v,h1,h2.any⟩
 |T =>
  obtain⟨a,vs,xs,h1,h2,h3,h4,h5⟩:=A.getT h
  exact⟨_,h1,by rw[h2];exact⟨a,vs,rfl,.inl ⟨.inl h3,trivial⟩,h4.any⟩⟩
 |O=>obtain⟨v,h1,h2⟩:=A.getO h;exact⟨v,h1,h2.rep (fun _ _=>trivial)⟩
theorem Ag.lt {i:Nat}{m:Md} (A:Ag K B H0 H σ Γ ρ F R) (h:Γ[i]?=some m):i<Γ.length:=(ZtC.mp h).1
noncomputable def Vo (F:Nat->List Addr) (i:Nat) (G:List Addr):Nat->List Addr:=fun j=>if j=i then G else F j
theorem Zs {i:Nat}{G:List Addr}:Vo F i G i=G:=if_pos rfl
theorem Z4 {i j:Nat}{G:List Addr} (h:j≠i):Vo F i G j=F j:=if_neg h
theorem Ag.put {i:Nat}{m:Md}{x:PV}{v:V}{G:List Addr} (A:Ag K B H0 H σ Γ ρ F (G++R)) (hi:i<Γ.length) (hG:∀a∈G,a ∉ R) (hs:VM K H (NO B (Vo F i G) R) m x (some (some v)) G) :
  Ag K B H0 H (σ.set i (some v)) (Γ.set i m) (ρ.set i x) (Vo F i G) R:=by
 refine⟨A.same,A.own,fun j a ha=>?_,fun a ha=>A.youngR a (ZtB _ ha),fun j a ha=>?_,fun a ha=>A.liveR a (ZtB _ ha),fun j k hjk a ha z=>?_,fun j a ha z=>?_,by simp[A.lenS],by simp[A.lenR],fun j=>?_⟩
 ·by_cases h:j=i
  ·subst h;rw[Zs] at ha;exact A.youngR a (ZtF _ ha)
  ·rw[Z4 h] at ha;exact A.young j a ha
 ·by_cases h:j=i
  ·subst h;rw[Zs] at ha;exact A.liveR a (ZtF _ ha)
  ·rw[Z4 h] at ha;exact A.live j a ha
 ·by_cases h:j=i
  ·subst h
   rw[Zs] at ha
   rw[Z4 (Ne.symm hjk)] at z
   exact A.disjR k a z (ZtF _ ha)
  ·rw[Z4 h] at ha
   by_cases h':k=i
   ·subst h'
    rw[Zs] at z
    exact A.disjR j a ha (ZtF _ z)
   ·rw[Z4 h'] at z
    exact A.disj j k hjk a ha z
 ·by_cases h:j=i
  ·subst h;rw[Zs] at ha;exact hG a ha z
  ·rw[Z4 h] at ha;exact A.disjR j a ha (ZtB _ z)
 ·by_cases h:j=i
  ·subst h
   rw[Zs,Zt8,Zt8,ZtX hi,ZtX (by rw[A.lenR];exact hi),ZtX (by rw[A.lenS];exact hi)]
   exact hs
  ·rw[Z4 h,Zt8,Zt8,Zuj (Ne.symm h),Zuj (Ne.symm h),Zuj (Ne.symm h),<- Zt8,<- Zt8]
   refine(A.slot j).mono (fun a vs s r=>⟨r,s.1,fun z=>s.2.1 (ZtB _ z),fun k z=>?_⟩) (fun a vs r=>r) fun a ha vs q=>q
   by_cases h':k=i
   ·subst h';rw[Zs] at z;exact s.2.1 (ZtF _ z)
   ·rw[Z4 h'] at z;exact s.2.2 k z
theorem Ag.turn {i:Nat}{m m':Md}{G:List Addr} (A:Ag K B H0 H σ Γ ρ F R) (h:Γ[i]?=some m) (hG:∀a∈G,a∈F i) (hs:VM K H (NO B (Vo F i []) (G++R)) m' (ρ.getD i .non) σ[i]? []) :
  Ag K B H0 H σ (Γ.set i m') ρ (Vo F i []) (G++R):=by
 have hi:=A.lt h
 refine⟨A.same,A.own,fun j a ha=>?_,fun a ha=>?_,fun j a ha=>?_,fun a ha=>?_,fun j k hjk a ha z=>?_,fun j a ha z=>?_,by simp[A.lenS],by simp[A.lenR],fun j=>?_⟩
 ·by_cases h:j=i
  ·subst h;rw[Zs] at ha;simp at ha
  ·rw[Z4 h] at ha;exact A.young j a ha
 ·rcases ZtD.mp ha with z|z
  ·exact A.young i a (hG a z)
  ·exact A.youngR a z
 ·by_cases h:j=i
  ·subst h;rw[Zs] at ha;simp at ha
  ·rw[Z4 h] at ha;exact A.live j a ha
 ·rcases ZtD.mp ha with z|z
  ·exact A.live i a (hG a z)
  ·exact A.liveR a z
 ·by_cases h:j=i
  ·subst h;rw[Zs] at ha;simp at ha
  ·by_cases h':k=i
   ·subst h';rw[Zs] at z;simp at z
   ·rw[Z4 h] at ha;rw[Z4 h'] at z;exact A.disj j k hjk a ha z
 ·by_cases h:j=i
  ·subst h;rw[Zs] at ha;simp at ha
  ·rw[Z4 h] at ha
   rcases ZtD.mp z with z|z
   ·exact A.disj j i h a ha (hG a z)
   ·exact A.disjR j a ha z
 ·by_cases h:j=i
  ·subst h
   rw[Zs,Zt8 (l:=Γ.set _ _),ZtX hi]
   exact hs
  ·rw[Z4 h,Zt8 (l:=Γ.set _ _),Zuj (Ne.symm h),<- Zt8]
   refine(A.slot j).mono (fun a vs s r=>⟨r,s.1,fun z=>?_,fun k z=>?_⟩) (fun a vs r=>r) fun a ha vs q=>q
   ·rcases ZtD.mp z with z|z
    ·exact s.2.2 i (hG a z)
    ·exact s.2.1 z
   ·by_cases h':k=i
    ·subst h';rw[Zs] at z;simp at z
    ·rw[Z4 h'] at z;exact s.2.2 k z
theorem Ag.noF (A:Ag K B H0 H σ Γ ρ F R) {i:Nat}{a:Addr} (ha:a∈F i):NO B (Vo F i []) R a:=⟨A.own a (A.young i a ha),A.disjR i a ha,fun j z=>by
 by_cases h:j=i
 ·subst h;rw[Zs] at z;simp at z
 ·rw[Z4 h] at z;exact A.disj j i h a z ha⟩
theorem Ag.freeze {i:Nat}{m:Md} (A:Ag K B H0 H σ Γ ρ F R) (h:Γ[i]?=some m) (hm:m≠.U):Ag K B H0 H σ (Γ.set i .S) ρ (Vo F i []) R:=by
 refine A.turn (G:=[]) h (by simp) ?_
 show VM K H (NO B (Vo F i []) R) .S (ρ.getD i .non) σ[i]? []
 have up:∀{a vs},NO B F R a->Rd H a vs->Rd H a vs/\NO B (Vo F i []) R a:=fun {a vs} s r=>⟨r,s.1,s.2.1,fun j z=>by
  by_cases h:j=i
  ·subst h;rw[Zs] at z;simp at z
  ·rw[Z4 h] at z;exact s.2.2 j z⟩
 cases m with
 |U=>exact absurd rfl hm
 |P=>obtain⟨v,h1,h2,h3⟩:=A.getP h;exact⟨rfl,v,h1,h3.flatS h2⟩
 |S=>obtain⟨v,h1,h2⟩:=A.getS h;exact⟨rfl,v,h1,Rep.mono (fun a vs s r=>up s r) (fun a vs r=>r) h2⟩
 |T =>
  obtain⟨a,vs,xs,h1,h2,h3,h4,h5⟩:=A.getT h
  refine⟨rfl,_,h1, ?_⟩
  rw[h2]
  exact⟨a,vs,rfl,.inl ⟨.inl h3,A.noF (by rw[h5];simp)⟩,Reps.mono (fun a vs s r=>up s r) (fun a vs r=>r) h4⟩
 |O =>
  obtain⟨v,h1,h2⟩:=A.getO h
  exact⟨rfl,v,h1,h2.rep fun a ha=>A.noF ha⟩
theorem Ag.move {i:Nat} (A:Ag K B H0 H σ Γ ρ F R) (h:Γ[i]?=some .O):Ag K B H0 H σ (Γ.set i .U) ρ (Vo F i []) (F i++R):=A.turn (G:=F i) h (fun a ha=>ha) rfl
end
noncomputable abbrev PX:=Str×PV
inductive Rr (α:Type) where
 |ok (a:α)|exc (e:PX)|bad
noncomputable def Rr.bind {α β:Type}:Rr α->(α->Rr β)->Rr β
 |.ok a,f=>f a
 |.exc e,_=>.exc e
 |.bad,_=>.bad
def Dn {α:Type} (r:Rr α) (ok:α->Prop) (ex:PX->Prop):Prop:=match r with
 |.ok a=>ok a
 |.exc e=>ex e
 |.bad=>False
theorem Dn.bind {α β:Type}{r:Rr α}{f:α->Rr β}{ok:β->Prop}{ex:PX->Prop} (h:Dn (r.bind f) ok ex):Dn r (fun a=>Dn (f a) ok ex) ex:=by
 cases r with
 |ok a=>exact h
 |exc e=>exact h
 |bad=>exact h
theorem Dn.imp {α:Type}{r:Rr α}{ok ok':α->Prop}{ex ex':PX->Prop} (h:Dn r ok ex) (h1:∀a,r=.ok a->ok a->ok' a) (h2:∀e,ex e->ex' e):Dn r ok' ex':=by
 cases r with
 |ok a=>exact h1 a rfl h
 |exc e=>exact h2 e h
 |bad=>exact h
@[simp] theorem Rr.bind_ok {α β:Type}{a:α}{f:α->Rr β}:(Rr.ok a).bind f=f a:=rfl
@[simp] theorem Rr.bind_exc {α β:Type}{e:PX}{f:α->Rr β}:(Rr.exc e:Rr α).bind f=.exc e:=rfl
@[simp] theorem Rr.bind_bad {α β:Type}{f:α->Rr β}:(Rr.bad:Rr α).bind f=.bad:=rfl
inductive Kd|P|F|T|Z|A|N
def Res (K:W.Frag) (B:Addr->Prop) (H0 H:Hp) (σ:St) (Γ':List Md) (ρ:List PV) (F:Nat->List Addr) (R:List Addr) (k:Kd) (x:PV) (v:V) (H':Hp):Prop:=
 ∃F',(∀i,∀a∈F' i,a∈F i)/\match k with
 |.P=>x.flat=true/\Rep K H' (fun _=>True) x v/\Ag K B H0 H' σ Γ' ρ F' R
 |.F=>∃G,ZZ K H' x v G/\(∀a∈G,a ∉ R/\(H a=none\/∃i,a∈F i))/\Ag K B H0 H' σ Γ' ρ F' (G++R)
 |.T=>∃a vs xs,x=.lst xs/\v=.ref a/\H' a=some (.lst vs)/\Reps K H' (NO B F' (a::R)) xs vs/\a ∉ R/\(H a=none\/∃i,a∈F i)/\Ag K B H0 H' σ Γ' ρ F' (a::R)
 |.Z=>Rep K H' (NO B F' R) x v/\Ag K B H0 H' σ Γ' ρ F' R
 |.A=>Rep K H' (fun _=>True) x v/\Ag K B H0 H' σ Γ' ρ F' R
 |.N=>False
def DE (K:W.Frag) (EX:PX->Hp->Prop) (Γ Γ':List Md) (k:Kd) (te:TE) (f:List PV->Rr PV):Prop:=
 ∀(B:Addr->Prop) (H0 H:Hp) (σ:St) (ρ:List PV) (F:Nat->List Addr) (R:List Addr) (Q:VK),Ag K B H0 H σ Γ ρ F R ->
  Dn (f ρ) (fun x=>∀v H',Z7 H H'->Res K B H0 H σ Γ' ρ F R k x v H'->Q v H') (fun e=>∀H',Z7 H0 H'->EX e H')->te σ H Q
def DT (K:W.Frag) (EX:PX->Hp->Prop) (Γ Γ':List Md) (tt:TT) (f:List PV->Rr Bool):Prop:=
 ∀(B:Addr->Prop) (H0 H:Hp) (σ:St) (ρ:List PV) (F:Nat->List Addr) (R:List Addr) (Q:Bool->Hp->Prop),Ag K B H0 H σ Γ ρ F R ->
  Dn (f ρ) (fun b=>∀H' F',Z7 H H'->(∀i,∀a∈F' i,a∈F i)->Ag K B H0 H' σ Γ' ρ F' R->Q b H') (fun e=>∀H',Z7 H0 H'->EX e H')->tt σ H Q
section
variable {K:W.Frag}{B:Addr->Prop}{EX:PX->Hp->Prop}{H0 H H':Hp}{σ:St}{Γ Γ' Γ1 Γ2:List Md}{ρ:List PV}{F F':Nat->List Addr}{R:List Addr}{k:Kd}{x:PV}{v:V}{te ta tb:TE}{f fa fb:List PV->Rr PV}
theorem Res.ag (h:Res K B H0 H σ Γ' ρ F R k x v H'):∃F',(∀i,∀a∈F' i,a∈F i)/\Rep K H' (fun _=>True) x v/\Ag K B H0 H' σ Γ' ρ F' R:=by
 obtain⟨F',hF,h⟩:=h
 refine⟨F',hF, ?_⟩
 cases k with
 |P=>exact⟨h.2.1,h.2.2⟩
 |F=>obtain⟨G,h1,h2,h3⟩:=h;exact⟨h1.rep fun _ _=>trivial,h3.less fun a ha=>ZtB _ ha⟩
 |T=>obtain⟨a,vs,xs,rfl,rfl,h1,h2,h3,h4,h5⟩:=h;exact⟨⟨a,vs,rfl,.inl ⟨.inl h1,trivial⟩,h2.any⟩,h5.less fun a ha=>Zui _ ha⟩
 |Z=>exact⟨h.1.any,h.2⟩
 |A=>exact h
 |N=>exact h.elim
theorem Res.toA (h:Res K B H0 H σ Γ' ρ F R k x v H'):Res K B H0 H σ Γ' ρ F R .A x v H':=let ⟨F',a,b,c⟩:=h.ag;⟨F',a,b,c⟩
theorem Res.PF (h:Res K B H0 H σ Γ' ρ F R .P x v H'):Res K B H0 H σ Γ' ρ F R .F x v H':=by
 obtain⟨F',hF,h1,h2,h3⟩:=h
 exact⟨F',hF,[],h2.tree h1,by simp,h3⟩
theorem Res.PZ (h:Res K B H0 H σ Γ' ρ F R .P x v H'):Res K B H0 H σ Γ' ρ F R .Z x v H':=by
 obtain⟨F',hF,h1,h2,h3⟩:=h
 exact⟨F',hF,h2.flatS h1,h3⟩
theorem Res.FZ (h:Res K B H0 H σ Γ' ρ F R .F x v H'):Res K B H0 H σ Γ' ρ F R .Z x v H':=by
 obtain⟨F',hF,G,h1,h2,h3⟩:=h
 exact⟨F',hF,h1.rep fun a ha=>⟨h3.own a (h3.youngR a (ZtF _ ha)),(h2 a ha).1,fun i z=>h3.disjR i a z (ZtF _ ha)⟩,h3.less fun a ha=>ZtB _ ha⟩
theorem DE.imp {k':Kd} (h:DE K EX Γ Γ' k te f) (hr:∀{B:Addr->Prop}{H0 H H':Hp}{σ:St}{ρ:List PV}{F:Nat->List Addr}{R:List Addr}{x:PV}{v:V},Res K B H0 H σ Γ' ρ F R k x v H'->Res K B H0 H σ Γ' ρ F R k' x v H'):DE K EX Γ Γ' k' te f:=
 fun B H0 H σ ρ F R Q A d=>h B H0 H σ ρ F R Q A (d.imp (fun x _ q v H' s r=>q v H' s (hr r)) fun e q=>q)
theorem DE.toA (h:DE K EX Γ Γ' k te f):DE K EX Γ Γ' .A te f:=h.imp Res.toA
theorem DE.PF (h:DE K EX Γ Γ' .P te f):DE K EX Γ Γ' .F te f:=h.imp Res.PF
theorem DE.PZ (h:DE K EX Γ Γ' .P te f):DE K EX Γ Γ' .Z te f:=h.imp Res.PZ
theorem DE.FZ (h:DE K EX Γ Γ' .F te f):DE K EX Γ Γ' .Z te f:=h.imp Res.FZ
noncomputable def grd (x:PV):Rr PV:=if x.flat=true then .ok x else .bad
theorem DE.grd (h:DE K EX Γ Γ' .A te f):DE K EX Γ Γ' .P te (fun ρ=>(f ρ).bind grd):=fun B H0 H σ ρ F R Q A d=>by
 refine h B H0 H σ ρ F R Q A (d.bind.imp (fun x _ q v H' s r=>?_) fun e q=>q)
 unfold L2.grd at q
 by_cases hx:x.flat=true
 ·rw[if_pos hx] at q
  obtain⟨F',h1,h2,h3⟩:=r
  exact q v H' s ⟨F',h1,hx,h2,h3⟩
 ·rw[if_neg hx] at q;exact q.elim
theorem ZlI {v:V} (hf:x.flat=true) (hr:∀H,Rep K H (fun _=>True) x v):DE K EX Γ Γ .P (tC v) (fun _=>.ok x):=fun B H0 H σ ρ F R Q A d =>
 d v H (Z7.refl H) ⟨F,fun _ _ h=>h,hf,hr H,A⟩
theorem Zj {i:Int}:DE K EX Γ Γ .P (tC (.int i)) (fun _=>.ok (.int i)):=ZlI rfl fun _=>rfl
theorem UG {b:Bool}:DE K EX Γ Γ .P (tC (.bl b)) (fun _=>.ok (.bl b)):=ZlI rfl fun _=>rfl
theorem Zd8:DE K EX Γ Γ .P (tC .non) (fun _=>.ok .non):=ZlI rfl fun _=>rfl
theorem JS {x:Str}:DE K EX Γ Γ .P (tC (.str x)) (fun _=>.ok (.str x)):=ZlI rfl fun _=>rfl
noncomputable def gv (i:Nat) (ρ:List PV):PV:=ρ.getD i .non
theorem Zc {i:Nat}{m:Md} (h:Γ[i]?=some m) (hm:m≠.U):DE K EX Γ Γ .A (ZaW i) (fun ρ=>.ok (gv i ρ)):=fun B H0 H σ ρ F R Q A d=>by
 obtain⟨v,h1,h2⟩:=A.getA h hm
 exact⟨v,h1,d v H (Z7.refl H) ⟨F,fun _ _ h=>h,h2,A⟩⟩
theorem Zk {i:Nat} (h:Γ[i]?=some .P):DE K EX Γ Γ .P (ZaW i) (fun ρ=>.ok (gv i ρ)):=fun B H0 H σ ρ F R Q A d=>by
 obtain⟨v,h1,h2,h3⟩:=A.getP h
 exact⟨v,h1,d v H (Z7.refl H) ⟨F,fun _ _ h=>h,h2,h3,A⟩⟩
theorem Vl {i:Nat} (h:Γ[i]?=some .S):DE K EX Γ Γ .Z (ZaW i) (fun ρ=>.ok (gv i ρ)):=fun B H0 H σ ρ F R Q A d=>by
 obtain⟨v,h1,h2⟩:=A.getS h
 exact⟨v,h1,d v H (Z7.refl H) ⟨F,fun _ _ h=>h,h2,A⟩⟩
theorem Vi {i:Nat}{F:Nat->List Addr}:∀j,∀a∈Vo F i [] j,a∈F j:=fun j a ha=>by
 by_cases h:j=i
 ·subst h;rw[Zs] at ha;simp at ha
 ·rw[Z4 h] at ha;exact ha
theorem JI {i:Nat} (h:Γ[i]?=some .O):DE K EX Γ (Γ.set i .U) .F (ZaW i) (fun ρ=>.ok (gv i ρ)):=fun B H0 H σ ρ F R Q A d=>by
 obtain⟨v,h1,h2⟩:=A.getO h
 exact⟨v,h1,d v H (Z7.refl H) ⟨Vo F i [],Vi,F i,h2,fun a ha=>⟨A.disjR i a ha,.inr ⟨i,ha⟩⟩,A.move h⟩⟩
theorem ZjE {i:Nat}{m:Md} (h:Γ[i]?=some m) (hm:m≠.U):DE K EX Γ (Γ.set i .S) .Z (ZaW i) (fun ρ=>.ok (gv i ρ)):=fun B H0 H σ ρ F R Q A d=>by
 have A':=A.freeze h hm
 obtain⟨v,h1,h2⟩:=A'.getS (ZtX (A.lt h))
 exact⟨v,h1,d v H (Z7.refl H) ⟨Vo F i [],Vi,h2,A'⟩⟩
def OpP (K:W.Frag) (r:R2) (o:PV->PV->Rr PV):Prop:=∀{H:Hp}{x y:PV}{v w:V}{Q:VK},Rep K H (fun _=>True) x v->Rep K H (fun _=>True) y w ->
 (∃z,o x y=.ok z/\(z.flat=true->∀u,Rep K H (fun _=>True) z u->Q u H))->r v w H Q
theorem Dn.bind2 {α β γ:Type}{r:Rr α}{q:Rr β}{f:α->β->Rr γ}{ok:γ->Prop}{ex:PX->Prop} (h:Dn (r.bind fun a=>q.bind fun b=>f a b) ok ex):Dn r (fun a=>Dn q (fun b=>Dn (f a b) ok ex) ex) ex:=
 h.bind.imp (fun a _ h=>h.bind) fun e h=>h
theorem two {Q:V->V->Hp->Prop}{ok:PV->PV->Prop} (ha:DE K EX Γ Γ1 .A ta fa) (hb:DE K EX Γ1 Γ2 .A tb fb) (A:Ag K B H0 H σ Γ ρ F R)
  (d:Dn (fa ρ) (fun x=>Dn (fb ρ) (fun y=>ok x y) (fun e=>∀H',Z7 H0 H'->EX e H')) (fun e=>∀H',Z7 H0 H'->EX e H'))
  (hq:∀x y v w H' F',ok x y->Z7 H H'->(∀i,∀a∈F' i,a∈F i)->Rep K H' (fun _=>True) x v->Rep K H' (fun _=>True) y w->Ag K B H0 H' σ Γ2 ρ F' R->Q v w H') :
  ta σ H fun v H1=>tb σ H1 fun w H2=>Q v w H2:=by
 refine ha B H0 H σ ρ F R _ A (d.imp (fun x _ d v H1 s1 r1=>?_) fun e q=>q)
 obtain⟨F1,f1,p1,A1⟩:=r1
 refine hb B H0 H1 σ ρ F1 R _ A1 (d.imp (fun y _ q w H2 s2 r2=>?_) fun e q=>q)
 obtain⟨F2,f2,p2,A2⟩:=r2
 exact hq x y v w H2 F2 q (s1.trans s2) (fun i a h=>f1 i a (f2 i a h)) (p1.same s2) p2 A2
theorem ZfZ {r:R2}{o:PV->PV->Rr PV} (hr:OpP K r o) (ho:∀x y z,o x y=.ok z->z.flat=true) (hx:∀x y e,o x y≠.exc e) (ha:DE K EX Γ Γ1 .A ta fa) (hb:DE K EX Γ1 Γ2 .A tb fb) :
  DE K EX Γ Γ2 .P (tOp r ta tb) (fun ρ=>(fa ρ).bind fun x=>(fb ρ).bind fun y=>o x y):=fun B H0 H σ ρ F R Q A d=>by
 refine two ha hb A d.bind2 fun x y v w H' F' d s hF p1 p2 A'=>?_
 cases e:o x y with
 |ok z=>rw[e] at d;exact hr p1 p2 ⟨z,e,fun hf u hu=>d u H' s ⟨F',hF,hf,hu,A'⟩⟩
 |exc q=>exact absurd e (hx x y q)
 |bad=>rw[e] at d;exact d.elim
noncomputable def oI (C:Int->Int->Bool) (g:Int->Int->PV) (x y:PV):Rr PV:=match x,y with
 |.int i,.int j=>if C i j=true then .ok (g i j) else .bad
 |_,_=>.bad
theorem Zbq {C:Int->Int->Bool}{g:Int->Int->PV}{i j:Int} (h:C i j=true):oI C g (.int i) (.int j)=.ok (g i j):=if_pos h
theorem ZmZ {C:Int->Int->Bool}{D:Int->Int->Prop}{g:Int->Int->PV}{g':Int->Int->V} (hC:∀i j,C i j=true->D i j) (hg:∀H i j,Rep K H (fun _=>True) (g i j) (g' i j)) (hf:∀i j,(g i j).flat=true):OpP K (rI D g') (oI C g):=by
 intro H x y v w Q rx ry ⟨z,e,q⟩
 cases x<;>cases y<;>first|(simp only[oI] at e;cases e;done)|skip
 rename_i i j
 simp only[oI] at e
 by_cases h:C i j=true
 ·rw[if_pos h] at e;cases e
  cases rx;cases ry
  exact⟨i,j,rfl,rfl,hC i j h,q (hf i j) _ (hg H i j)⟩
 ·rw[if_neg h] at e;cases e
theorem Zmh {g:Int->Int->PV}{g':Int->Int->V} (hg:∀H i j,Rep K H (fun _=>True) (g i j) (g' i j)) (hf:∀i j,(g i j).flat=true):OpP K (rI0 g') (oI (fun _ _=>true) g):=by
 intro H x y v w Q rx ry ⟨z,e,q⟩
 cases x<;>cases y<;>first|(simp only[oI] at e;cases e;done)|skip
 rename_i i j
 simp only[oI,if_true] at e
 cases e;cases rx;cases ry
 exact⟨i,j,rfl,rfl,q (hf i j) _ (hg H i j)⟩
theorem Zdl {C:Int->Int->Bool}{g:Int->Int->PV} (x y:PV) (e:PX):oI C g x y≠.exc e:=by
 cases x<;>cases y<;>first|(intro h;simp only[oI] at h;cases h;done)|skip
 intro h
 simp only[oI] at h
 split at h<;>cases h
theorem Zfz {C:Int->Int->Bool}{g:Int->Int->PV} (hf:∀i j,(g i j).flat=true) (x y z:PV) (h:oI C g x y=.ok z):z.flat=true:=by
 cases x<;>cases y<;>first|(simp only[oI] at h;cases h;done)|skip
 simp only[oI] at h
 split at h
 ·cases h;exact hf _ _
 ·cases h
end
mutual
noncomputable def PV.noX:PV->Bool
 |.exc _=>false
 |.exa _ _=>false
 |.box _ _ _=>false
 |.lst xs=>PV.noXs xs
 |.tup xs=>PV.noXs xs
 |.non=>true
 |.bl _=>true
 |.int _=>true
 |.str _=>true
noncomputable def PV.noXs:List PV->Bool
 |[]=>true
 |x::xs=>x.noX&&PV.noXs xs
end
theorem PV.noXs_ints:∀(ns:List Int),PV.noXs (ns.map PV.int)=true
 |[]=>rfl
 |n::ns=>by simp[PV.noXs,PV.noX,PV.noXs_ints ns]
mutual
noncomputable def PV.dat:PV->PyData
 |.non=>.none
 |.bl b=>.bool b
 |.int i=>.int i
 |.str x=>.str x
 |.exc _=>.none
 |.exa _ _=>.none
 |.box _ _ _=>.none
 |.lst xs=>.list (PV.dats xs)
 |.tup xs=>.tuple (PV.dats xs)
noncomputable def PV.dats:List PV->List PyData
 |[]=>[]
 |x::xs=>x.dat::PV.dats xs
end
section
variable {X:Cx}{pins:List (Addr×Obj)}{σ:St}{H:Hp}{s:Shared}{S:Addr->Prop}
theorem Vr {K:W.Frag}{a:Addr}{vs:List V} (h:(Rd H a (.lst vs)/\S a)\/KL K a vs):SqL K H a vs:=by
 rcases h with h|h
 ·exact .inl h.1
 ·exact .inr h
mutual
theorem Rep.reads (I:Inv X pins σ H s):∀{x:PV}{v:V}{u:Value},x.noX=true->Rep X.K H S x v->Jt v u->∃as,Reads s.heap u x.dat as
 |.non,_,_,_,h,r=>by cases h;cases r;exact⟨_,.none⟩
 |.bl _,_,_,_,h,r=>by cases h;cases r;exact⟨_,.bool _⟩
 |.int _,_,_,_,h,r=>by cases h;obtain⟨t,rfl⟩:=r;exact⟨_,.int _ _⟩
 |.str _,_,_,_,h,r=>by cases h;obtain⟨t,rfl⟩:=r;exact⟨_,.str _ _⟩
 |.exc _,_,_,z,_,_=>by simp[PV.noX] at z
 |.exa _ _,_,_,z,_,_=>by simp[PV.noX] at z
 |.box _ _ _,_,_,z,_,_=>by simp[PV.noX] at z
 |.lst xs,_,_,z,h,r=>by
  obtain⟨a,vs,rfl,hn,hr⟩:=h
  cases r
  obtain⟨its,rv,pl,_⟩:=I.list (Vr hn)
  obtain⟨as,ra⟩:=Reps.reads I (by simpa[PV.noX] using z) hr rv
  obtain⟨o,ho,hc,n,hd⟩:=pl.isList
  exact⟨_,.list ho hc hd (by simpa using ra)⟩
 |.tup xs,_,_,z,h,r=>by
  obtain⟨a,vs,rfl,hn,hr⟩:=h
  cases r
  obtain⟨its,rv,⟨o,ho,hc,n,hd⟩,_⟩:=I.tuple hn.sqT
  obtain⟨as,ra⟩:=Reps.reads I (by simpa[PV.noX] using z) hr rv
  exact⟨_,.tuple ho hc hd (by simpa using ra)⟩
theorem Reps.reads (I:Inv X pins σ H s):∀{xs:List PV}{vs:List V}{us:List Value},PV.noXs xs=true->Reps X.K H S xs vs->Jb vs us->∃as,ReadsAll s.heap us (PV.dats xs) as
 |[],_,_,_,h,r=>by rw[h] at r;cases r;exact⟨_,.nil⟩
 |x::xs,_,_,z,h,r=>by
  simp only[PV.noXs,Bool.and_eq_true] at z
  obtain⟨v,vs,rfl,h1,h2⟩:=h
  cases r with
  |cons r1 r2 =>
   obtain⟨as,a1⟩:=Rep.reads I z.1 h1 r1
   obtain⟨bs,b1⟩:=Reps.reads I z.2 h2 r2
   exact⟨_,.cons a1 b1⟩
end
noncomputable def okD (x:PV):Bool:=x.noX&&x.dat.canLay0&&decide (x.dat.depth<=64)
noncomputable def ZlV (K:W.Frag) (g:Bool->Bool):R2:=fun x y H Q=>∃p q,Rep K H (fun _=>True) p x/\Rep K H (fun _=>True) q y/\okD p=true/\okD q=true/\Q (.bl (g (PyData.eqv p.dat q.dat))) H
theorem J0 {K:W.Frag} (hu:X.A.units+64<cLine) (e:X.K=K:=by rfl):OpR X (compareOp .Eq) (ZlV K id):=by
 subst e
 intro pins s σ H x y v u Q I rx ry h
 obtain⟨p,q,h1,h2,h3,h4,hq⟩:=h
 simp only[okD,Bool.and_eq_true,decide_eq_true_eq] at h3 h4
 obtain⟨as,ra⟩:=h1.reads I h3.1.1 rx
 obtain⟨bs,rb⟩:=h2.reads I h4.1.1 ry
 exact SeqAt.rcAt_reads ra rb h3.1.2 h4.1.2 (by have:=Zvt p.dat.depth q.dat.depth;omega) _ _ _ _ ⟨.bl (PyData.eqv p.dat q.dat),H,I,rfl,hq⟩
theorem VH {K:W.Frag} (hu:X.A.units+64<cLine) (e:X.K=K:=by rfl):OpR X (compareOp .NotEq) (ZlV K (!·)):=by
 subst e
 intro pins s σ H x y v u Q I rx ry h
 obtain⟨p,q,h1,h2,h3,h4,hq⟩:=h
 simp only[okD,Bool.and_eq_true,decide_eq_true_eq] at h3 h4
 obtain⟨as,ra⟩:=h1.reads I h3.1.1 rx
 obtain⟨bs,rb⟩:=h2.reads I h4.1.1 ry
 exact SeqAt.rcNeAt_reads ra rb h3.1.2 h4.1.2 (by have:=Zvt p.dat.depth q.dat.depth;omega) _ _ _ _ ⟨.bl (!PyData.eqv p.dat q.dat),H,I,rfl,hq⟩
end
noncomputable def US (g:Bool->Bool) (x y:PV):Rr PV:=if (okD x&&okD y)=true then .ok (.bl (g (PyData.eqv x.dat y.dat))) else .bad
def ZcD (i j:Int):Prop:=i.natAbs<2^60000/\j.natAbs<2^60000
def ZcE (i j:Int):Prop:=0<j/\j.natAbs<2^9000
noncomputable instance (i j:Int):Decidable (ZcD i j):=by unfold ZcD;infer_instance
noncomputable instance (i j:Int):Decidable (ZcE i j):=by unfold ZcE;infer_instance
noncomputable instance (i j:Int):Decidable (Zke i j):=by unfold Zke;infer_instance
theorem Zgy {i:Int}{n:Nat} (h:i.natAbs<2^n):Builtin.Int.intBits i<=n:=by
 unfold Builtin.Int.intBits
 split
 ·exact Zub _
 ·rename_i h0
  have:i.natAbs≠0:=by simpa using h0
  exact Nat.succ_le_of_lt ((Nat.log2_lt this).mpr h)
section
variable {X:Cx}
theorem U1:OpR X (binaryOp .Mult) (rI ZcD fun i j=>.int (i*j)):=opI fun _ _ _ _ _ _ _ hc q=>mul_int q (PyProof.Rows.mulOk_of_bits (Zgy hc.1) (Zgy hc.2) (by decide))
theorem Jz:OpR X (binaryOp .FloorDiv) (rI ZcE fun i j=>.int (i/j)):=opI fun i j _ _ _ _ _ hc q=>by
 refine floordiv_int (by have:=hc.1;omega) ?_ (.inl (PyProof.noPylong_of_log2 ?_))
 ·rw[Int.fdiv_eq_ediv_of_nonneg _ (by have:=hc.1;omega)];exact q
 ·have h0:j.natAbs≠0:=by have:=hc.1;omega
  exact(Nat.log2_lt h0).mpr hc.2
variable {K:W.Frag}{B:Addr->Prop}{EX:PX->Hp->Prop}{H0 H:Hp}{σ:St}{Γ Γ' Γ1 Γ2:List Md}{ρ:List PV}{F:Nat->List Addr}{R:List Addr}{k:Kd}{x:PV}{v:V}{ta tb:TE}{fa fb fc:List PV->Rr PV}
noncomputable abbrev Zmd:PV->PV->Rr PV:=oI (fun _ _=>true) fun i j=>.int (i+j)
noncomputable abbrev ZmC:PV->PV->Rr PV:=oI (fun _ _=>true) fun i j=>.int (i-j)
noncomputable abbrev ZlZ:PV->PV->Rr PV:=oI (fun i j=>decide (ZcD i j)) fun i j=>.int (i*j)
noncomputable abbrev Zmc:PV->PV->Rr PV:=oI (fun i j=>decide (ZcE i j)) fun i j=>.int (i/j)
noncomputable abbrev ZmE:PV->PV->Rr PV:=oI (fun _ j=>decide (0<j)) fun i j=>.int (i%j)
noncomputable abbrev ZkA:PV->PV->Rr PV:=oI (fun i j=>decide (Zke i j)) fun i j=>.int (i^j.toNat)
noncomputable abbrev pLt:PV->PV->Rr PV:=oI (fun _ _=>true) fun i j=>.bl (decide (i<j))
noncomputable abbrev pLe:PV->PV->Rr PV:=oI (fun _ _=>true) fun i j=>.bl (decide (i<=j))
noncomputable abbrev pGt:PV->PV->Rr PV:=oI (fun _ _=>true) fun i j=>.bl (decide (j<i))
noncomputable abbrev pGe:PV->PV->Rr PV:=oI (fun _ _=>true) fun i j=>.bl (decide (j<=i))
theorem Zga {D:Int->Int->Prop}{C:Int->Int->Bool}{g:Int->Int->PV}{g':Int->Int->V} (hC:∀i j,C i j=true->D i j) (hg:∀H i j,Rep K H (fun _=>True) (g i j) (g' i j)) (hf:∀i j,(g i j).flat=true)
  (ha:DE K EX Γ Γ1 .A ta fa) (hb:DE K EX Γ1 Γ2 .A tb fb):DE K EX Γ Γ2 .P (tOp (rI D g') ta tb) (fun ρ=>(fa ρ).bind fun x=>(fb ρ).bind fun y=>oI C g x y):=
 ZfZ (ZmZ hC hg hf) (Zfz hf) Zdl ha hb
theorem Zae {g:Int->Int->PV}{g':Int->Int->V} (hg:∀H i j,Rep K H (fun _=>True) (g i j) (g' i j)) (hf:∀i j,(g i j).flat=true)
  (ha:DE K EX Γ Γ1 .A ta fa) (hb:DE K EX Γ1 Γ2 .A tb fb):DE K EX Γ Γ2 .P (tOp (rI0 g') ta tb) (fun ρ=>(fa ρ).bind fun x=>(fb ρ).bind fun y=>oI (fun _ _=>true) g x y):=
 ZfZ (Zmh hg hf) (Zfz hf) Zdl ha hb
theorem J8 (ha:DE K EX Γ Γ1 .A ta fa) (hb:DE K EX Γ1 Γ2 .A tb fb):DE K EX Γ Γ2 .P (tOp (rI0 fun i j=>.int (i+j)) ta tb) (fun ρ=>(fa ρ).bind fun x=>(fb ρ).bind fun y=>Zmd x y):=Zae (fun _ _ _=>rfl) (fun _ _=>rfl) ha hb
theorem ZfX (ha:DE K EX Γ Γ1 .A ta fa) (hb:DE K EX Γ1 Γ2 .A tb fb):DE K EX Γ Γ2 .P (tOp (rI0 fun i j=>.int (i-j)) ta tb) (fun ρ=>(fa ρ).bind fun x=>(fb ρ).bind fun y=>ZmC x y):=Zae (fun _ _ _=>rfl) (fun _ _=>rfl) ha hb
theorem Zb9 (ha:DE K EX Γ Γ1 .A ta fa) (hb:DE K EX Γ1 Γ2 .A tb fb):DE K EX Γ Γ2 .P (tOp (rI0 fun i j=>.bl (decide (i<j))) ta tb) (fun ρ=>(fa ρ).bind fun x=>(fb ρ).bind fun y=>pLt x y):=Zae (fun _ _ _=>rfl) (fun _ _=>rfl) ha hb
theorem Zmq (ha:DE K EX Γ Γ1 .A ta fa) (hb:DE K EX Γ1 Γ2 .A tb fb):DE K EX Γ Γ2 .P (tOp (rI0 fun i j=>.bl (decide (i<=j))) ta tb) (fun ρ=>(fa ρ).bind fun x=>(fb ρ).bind fun y=>pLe x y):=Zae (fun _ _ _=>rfl) (fun _ _=>rfl) ha hb
theorem Zgd (ha:DE K EX Γ Γ1 .A ta fa) (hb:DE K EX Γ1 Γ2 .A tb fb):DE K EX Γ Γ2 .P (tOp (rI0 fun i j=>.bl (decide (j<i))) ta tb) (fun ρ=>(fa ρ).bind fun x=>(fb ρ).bind fun y=>pGt x y):=Zae (fun _ _ _=>rfl) (fun _ _=>rfl) ha hb
theorem Zmr (ha:DE K EX Γ Γ1 .A ta fa) (hb:DE K EX Γ1 Γ2 .A tb fb):DE K EX Γ Γ2 .P (tOp (rI0 fun i j=>.bl (decide (j<=i))) ta tb) (fun ρ=>(fa ρ).bind fun x=>(fb ρ).bind fun y=>pGe x y):=Zae (fun _ _ _=>rfl) (fun _ _=>rfl) ha hb
theorem Zaf (ha:DE K EX Γ Γ1 .A ta fa) (hb:DE K EX Γ1 Γ2 .A tb fb):DE K EX Γ Γ2 .P (tOp (rI ZcD fun i j=>.int (i*j)) ta tb) (fun ρ=>(fa ρ).bind fun x=>(fb ρ).bind fun y=>ZlZ x y):=Zga (fun _ _ h=>of_decide_eq_true h) (fun _ _ _=>rfl) (fun _ _=>rfl) ha hb
theorem VL (ha:DE K EX Γ Γ1 .A ta fa) (hb:DE K EX Γ1 Γ2 .A tb fb):DE K EX Γ Γ2 .P (tOp (rI ZcE fun i j=>.int (i/j)) ta tb) (fun ρ=>(fa ρ).bind fun x=>(fb ρ).bind fun y=>Zmc x y):=Zga (fun _ _ h=>of_decide_eq_true h) (fun _ _ _=>rfl) (fun _ _=>rfl) ha hb
theorem ZV (ha:DE K EX Γ Γ1 .A ta fa) (hb:DE K EX Γ1 Γ2 .A tb fb):DE K EX Γ Γ2 .P (tOp (rI (fun _ j=>0<j) fun i j=>.int (i%j)) ta tb) (fun ρ=>(fa ρ).bind fun x=>(fb ρ).bind fun y=>ZmE x y):=Zga (fun _ _ h=>of_decide_eq_true h) (fun _ _ _=>rfl) (fun _ _=>rfl) ha hb
theorem Zb8 (ha:DE K EX Γ Γ1 .A ta fa) (hb:DE K EX Γ1 Γ2 .A tb fb):DE K EX Γ Γ2 .P (tOp (rI Zke fun i j=>.int (i^j.toNat)) ta tb) (fun ρ=>(fa ρ).bind fun x=>(fb ρ).bind fun y=>ZkA x y):=Zga (fun _ _ h=>of_decide_eq_true h) (fun _ _ _=>rfl) (fun _ _=>rfl) ha hb
theorem ZdY {g:Bool->Bool} (x y:PV) (e:PX):US g x y≠.exc e:=by
 unfold US
 intro h
 split at h<;>cases h
theorem Zfm {g:Bool->Bool} (x y z:PV) (h:US g x y=.ok z):z.flat=true:=by
 unfold US at h
 split at h
 ·cases h;rfl
 ·cases h
theorem ZX {g:Bool->Bool} (ha:DE K EX Γ Γ1 .A ta fa) (hb:DE K EX Γ1 Γ2 .A tb fb):DE K EX Γ Γ2 .P (tOp (ZlV K g) ta tb) (fun ρ=>(fa ρ).bind fun x=>(fb ρ).bind fun y=>US g x y):=by
 refine ZfZ (fun {H x y v w Q} rx ry ⟨z,e,q⟩=>?_) Zfm ZdY ha hb
 unfold US at e
 by_cases h:(okD x&&okD y)=true
 ·rw[if_pos h] at e;cases e
  rw[Bool.and_eq_true] at h
  exact⟨x,y,rx,ry,h.1,h.2,q rfl _ rfl⟩
 ·rw[if_neg h] at e;cases e
noncomputable def ZmF (g:Bool->Bool) (x:PV):Rr PV:=match x with
 |.non=>.ok (.bl (g true))
 |_=>.ok (.bl (g false))
theorem ZiT {x:PV}{v:V}{S:Addr->Prop} (h:Rep K H S x v):decide (v=.non)=match x with|.non=>true|_=>false:=by
 cases x<;>first|(cases h;rfl)|(obtain⟨a,vs,rfl,_⟩:=h;rfl)|(obtain⟨a,vs,c,rfl,_⟩:=h;rfl)|(obtain⟨a,o,c,d,fs,rfl,_⟩:=h;rfl)
theorem ZjF (ha:DE K EX Γ Γ1 .A ta fa):DE K EX Γ Γ1 .P (tOp (fun x y H Q=>y=.non/\Q (.bl (!decide (x=.non))) H) ta (tC .non)) (fun ρ=>(fa ρ).bind (ZmF (!·))):=fun B H0 H σ ρ F R Q A d=>by
 refine ha B H0 H σ ρ F R _ A (d.bind.imp (fun x _ d v H1 s1 r1=>?_) fun e q=>q)
 obtain⟨F1,f1,p1,A1⟩:=r1
 have e:=ZiT p1
 refine⟨rfl, ?_⟩
 rw[e]
 cases x<;>exact d _ H1 s1 ⟨F1,f1,rfl,rfl,A1⟩
noncomputable def asB (x:PV):Rr Bool:=match x with
 |.bl b=>.ok b
 |_=>.bad
theorem Dn.asB {x:PV}{ok:Bool->Prop}{ex:PX->Prop} (d:Dn (asB x) ok ex):∃b,x=.bl b/\ok b:=by
 cases x with
 |bl b=>exact⟨b,rfl,d⟩
 |_=>exact d.elim
theorem Zlt (ha:DE K EX Γ Γ1 .A ta fa):DE K EX Γ Γ1 .P (Zko ta) (fun ρ=>(fa ρ).bind fun x=>(asB x).bind fun b=>.ok (.bl (!b))):=fun B H0 H σ ρ F R Q A d=>by
 refine ha B H0 H σ ρ F R _ A (d.bind.imp (fun x _ d v H1 s1 r1=>?_) fun e q=>q)
 obtain⟨b,rfl,d⟩:=d.bind.asB
 obtain⟨F1,f1,p1,A1⟩:=r1
 cases p1
 exact⟨b,rfl,d _ H1 s1 ⟨F1,f1,rfl,rfl,A1⟩⟩
theorem Res.shift {H1:Hp}{F1:Nat->List Addr}{k:Kd}{Γ2:List Md}{y:PV}{w:V}{H2:Hp} (s1:Z7 H H1) (f1:∀i,∀a∈F1 i,a∈F i) (h:Res K B H0 H1 σ Γ2 ρ F1 R k y w H2):Res K B H0 H σ Γ2 ρ F R k y w H2:=by
 obtain⟨F2,f2,h⟩:=h
 refine⟨F2,fun i a ha=>f1 i a (f2 i a ha), ?_⟩
 have org:∀a,(H1 a=none\/∃i,a∈F1 i)->(H a=none\/∃i,a∈F i):=fun a h=>h.elim (fun z=>.inl (s1.free z)) fun⟨i,z⟩=>.inr ⟨i,f1 i a z⟩
 cases k with
 |P=>exact h
 |F=>obtain⟨G,h1,h2,h3⟩:=h;exact⟨G,h1,fun a ha=>⟨(h2 a ha).1,org a (h2 a ha).2⟩,h3⟩
 |T=>obtain⟨a,vs,xs,h1,h2,h3,h4,h5,h6,h7⟩:=h;exact⟨a,vs,xs,h1,h2,h3,h4,h5,org a h6,h7⟩
 |Z=>exact h
 |A=>exact h
 |N=>exact h.elim
theorem Zag (ha:DE K EX Γ Γ .A ta fa) (hb:DE K EX Γ Γ .P tb fb):DE K EX Γ Γ .P (Zku ta tb) (fun ρ=>(fa ρ).bind fun x=>(asB x).bind fun b=>if b=true then fb ρ else .ok (.bl false)):=fun B H0 H σ ρ F R Q A d=>by
 refine ha B H0 H σ ρ F R _ A (d.bind.imp (fun x _ d v H1 s1 r1=>?_) fun e q=>q)
 obtain⟨b,rfl,d⟩:=d.bind.asB
 obtain⟨F1,f1,p1,A1⟩:=r1
 cases p1
 refine⟨b,rfl, ?_⟩
 cases b with
 |true=>exact hb B H0 H1 σ ρ F1 R _ A1 (d.imp (fun y _ q w H2 s2 r2=>q w H2 (s1.trans s2) (r2.shift s1 f1)) fun e q=>q)
 |false=>exact d _ H1 s1 ⟨F1,f1,rfl,rfl,A1⟩
theorem Zv (ha:DE K EX Γ Γ' .A ta fa):DT K EX Γ Γ' (ZiJ ta) (fun ρ=>(fa ρ).bind asB):=fun B H0 H σ ρ F R Q A d=>by
 refine ha B H0 H σ ρ F R _ A (d.bind.imp (fun x _ d v H1 s1 r1=>?_) fun e q=>q)
 obtain⟨b,rfl,d⟩:=d.asB
 obtain⟨F1,f1,p1,A1⟩:=r1
 cases p1
 exact⟨b,rfl,d H1 F1 s1 f1 A1⟩
theorem Zb6 (ha:DE K EX Γ Γ' .A ta fa):DT K EX Γ Γ' (tB ta) (fun ρ=>(fa ρ).bind asB):=Zv ha
theorem ZfQ {c d:TT}{fc fd:List PV->Rr Bool} (hc:DT K EX Γ Γ c fc) (hd:DT K EX Γ Γ d fd):DT K EX Γ Γ (Zm7 c d) (fun ρ=>(fc ρ).bind fun b=>if b=true then fd ρ else .ok false):=fun B H0 H σ ρ F R Q A dn=>by
 refine hc B H0 H σ ρ F R _ A (dn.bind.imp (fun b _ dn H1 F1 s1 f1 A1=>?_) fun e q=>q)
 cases b with
 |true=>exact hd B H0 H1 σ ρ F1 R _ A1 (dn.imp (fun y _ q H2 F2 s2 f2 A2=>q H2 F2 (s1.trans s2) (fun i a h=>f1 i a (f2 i a h)) A2) fun e q=>q)
 |false=>exact dn H1 F1 s1 f1 A1
theorem Vu {c d:TT}{fc fd:List PV->Rr Bool} (hc:DT K EX Γ Γ c fc) (hd:DT K EX Γ Γ d fd):DT K EX Γ Γ (tOr c d) (fun ρ=>(fc ρ).bind fun b=>if b=true then .ok true else fd ρ):=fun B H0 H σ ρ F R Q A dn=>by
 refine hc B H0 H σ ρ F R _ A (dn.bind.imp (fun b _ dn H1 F1 s1 f1 A1=>?_) fun e q=>q)
 cases b with
 |false=>exact hd B H0 H1 σ ρ F1 R _ A1 (dn.imp (fun y _ q H2 F2 s2 f2 A2=>q H2 F2 (s1.trans s2) (fun i a h=>f1 i a (f2 i a h)) A2) fun e q=>q)
 |true=>exact dn H1 F1 s1 f1 A1
theorem JR {c:TT}{fc:List PV->Rr Bool} (hc:DT K EX Γ Γ' c fc):DT K EX Γ Γ' (Zm3 c) (fun ρ=>(fc ρ).bind fun b=>.ok (!b)):=fun B H0 H σ ρ F R Q A dn =>
 hc B H0 H σ ρ F R _ A (dn.bind.imp (fun b _ dn H1 F1 s1 f1 A1=>dn H1 F1 s1 f1 A1) fun e q=>q)
end
def DAA (K:W.Frag) (EX:PX->Hp->Prop) (Γ Γ':List Md) (ta:TA) (f:List PV->Rr (List PV)):Prop:=
 ∀(B:Addr->Prop) (H0 H:Hp) (σ:St) (ρ:List PV) (F:Nat->List Addr) (R:List Addr) (Q:List V->Hp->Prop),Ag K B H0 H σ Γ ρ F R ->
  Dn (f ρ) (fun xs=>∀vs H' F',Z7 H H'->(∀i,∀a∈F' i,a∈F i)->Reps K H' (fun _=>True) xs vs->Ag K B H0 H' σ Γ' ρ F' R->Q vs H') (fun e=>∀H',Z7 H0 H'->EX e H')->ta σ H Q
def DAF (K:W.Frag) (EX:PX->Hp->Prop) (Γ Γ':List Md) (ta:TA) (f:List PV->Rr (List PV)):Prop:=
 ∀(B:Addr->Prop) (H0 H:Hp) (σ:St) (ρ:List PV) (F:Nat->List Addr) (R:List Addr) (Q:List V->Hp->Prop),Ag K B H0 H σ Γ ρ F R ->
  Dn (f ρ) (fun xs=>∀vs H' F' G,Z7 H H'->(∀i,∀a∈F' i,a∈F i)->Trees K H' xs vs G->(∀a∈G,a ∉ R/\(H a=none\/∃i,a∈F i))->Ag K B H0 H' σ Γ' ρ F' (G++R)->Q vs H') (fun e=>∀H',Z7 H0 H'->EX e H')->ta σ H Q
section
variable {K:W.Frag}{B:Addr->Prop}{EX:PX->Hp->Prop}{H0 H H':Hp}{σ:St}{Γ Γ' Γ1 Γ2:List Md}{ρ:List PV}{F F':Nat->List Addr}{R:List Addr}{k:Kd}{x:PV}{v:V}{te tb:TE}{ta:TA}{f fb:List PV->Rr PV}{fa:List PV->Rr (List PV)}
theorem Zd:DAA K EX Γ Γ Zey (fun _=>.ok []):=fun B H0 H σ ρ F R Q A d=>d [] H F (Z7.refl H) (fun _ _ h=>h) rfl A
theorem Zb (he:DE K EX Γ Γ1 .A te f) (ha:DAA K EX Γ1 Γ2 ta fa):DAA K EX Γ Γ2 (Qb te ta) (fun ρ=>(f ρ).bind fun x=>(fa ρ).bind fun xs=>.ok (x::xs)):=fun B H0 H σ ρ F R Q A d=>by
 refine he B H0 H σ ρ F R _ A (d.bind.imp (fun x _ d v H1 s1 r1=>?_) fun e q=>q)
 obtain⟨F1,f1,p1,A1⟩:=r1
 refine ha B H0 H1 σ ρ F1 R _ A1 (d.bind.imp (fun xs _ d vs H2 F2 s2 f2 p2 A2=>?_) fun e q=>q)
 exact d (v::vs) H2 F2 (s1.trans s2) (fun i a h=>f1 i a (f2 i a h)) ⟨v,vs,rfl,p1.same s2,p2⟩ A2
theorem Jq:DAF K EX Γ Γ Zey (fun _=>.ok []):=fun B H0 H σ ρ F R Q A d=>d [] H F [] (Z7.refl H) (fun _ _ h=>h) ⟨rfl,rfl⟩ (by simp) A
theorem ZE (he:DE K EX Γ Γ1 .F te f) (ha:DAF K EX Γ1 Γ2 ta fa):DAF K EX Γ Γ2 (Qb te ta) (fun ρ=>(f ρ).bind fun x=>(fa ρ).bind fun xs=>.ok (x::xs)):=fun B H0 H σ ρ F R Q A d=>by
 refine he B H0 H σ ρ F R _ A (d.bind.imp (fun x _ d v H1 s1 r1=>?_) fun e q=>q)
 obtain⟨F1,f1,G1,p1,o1,A1⟩:=r1
 refine ha B H0 H1 σ ρ F1 (G1++R) _ A1 (d.bind.imp (fun xs _ d vs H2 F2 G2 s2 f2 p2 o2 A2=>?_) fun e q=>q)
 refine d (v::vs) H2 F2 (G1++G2) (s1.trans s2) (fun i a h=>f1 i a (f2 i a h)) ⟨v,vs,G1,G2,rfl,p1.same s2,p2,fun a ha z=>(o2 a z).1 (ZtF _ ha),rfl⟩ (fun a ha=>?_) (A2.less fun a ha=>?_)
 ·rcases ZtD.mp ha with z|z
  ·exact o1 a z
  ·obtain⟨o3,o4⟩:=o2 a z
   exact⟨fun q=>o3 (ZtB _ q),o4.elim (fun q=>.inl (s1.free q)) fun⟨i,q⟩=>.inr ⟨i,f1 i a q⟩⟩
 ·simp only[ZtD] at ha ⊢
  rcases ha with (z|z)|z
  ·exact .inr (.inl z)
  ·exact .inl z
  ·exact .inr (.inr z)
noncomputable def mkT (xs:List PV):Rr PV:=if xs.length<=1000 then .ok (.tup xs) else .bad
noncomputable def mkL (xs:List PV):Rr PV:=if xs.length<=1000 then .ok (.lst xs) else .bad
theorem Dn.mkT {xs:List PV}{ok:PV->Prop}{ex:PX->Prop} (d:Dn (mkT xs) ok ex):xs.length<=1000/\ok (.tup xs):=by
 unfold L2.mkT at d
 by_cases h:xs.length<=1000
 ·rw[if_pos h] at d;exact⟨h,d⟩
 ·rw[if_neg h] at d;exact d.elim
theorem Dn.mkL {xs:List PV}{ok:PV->Prop}{ex:PX->Prop} (d:Dn (mkL xs) ok ex):xs.length<=1000/\ok (.lst xs):=by
 unfold L2.mkL at d
 by_cases h:xs.length<=1000
 ·rw[if_pos h] at d;exact⟨h,d⟩
 ·rw[if_neg h] at d;exact d.elim
theorem Q7 (ha:DAF K EX Γ Γ' ta fa):DE K EX Γ Γ' .F (ZlS ta) (fun ρ=>(fa ρ).bind mkT):=fun B H0 H σ ρ F R Q A d=>by
 refine ha B H0 H σ ρ F R _ A (d.bind.imp (fun xs _ d vs H1 F1 G s1 f1 p1 o1 A1=>?_) fun e q=>q)
 obtain⟨hl,d⟩:=d.mkT
 refine⟨by rw[p1.length];exact UT hl,fun p hp=>?_⟩
 have e:Z7 H1 (upd H1 p (.tup vs)):=Z7.new hp
 exact d _ _ (s1.trans e) ⟨F1,f1,G,⟨p,vs,rfl,⟨ZD,trivial⟩,p1.same e⟩,o1,A1.grow e⟩
theorem Q8 (ha:DAA K EX Γ Γ' ta fa):DE K EX Γ Γ' .A (ZlS ta) (fun ρ=>(fa ρ).bind mkT):=fun B H0 H σ ρ F R Q A d=>by
 refine ha B H0 H σ ρ F R _ A (d.bind.imp (fun xs _ d vs H1 F1 s1 f1 p1 A1=>?_) fun e q=>q)
 obtain⟨hl,d⟩:=d.mkT
 refine⟨by rw[p1.length];exact UT hl,fun p hp=>?_⟩
 have e:Z7 H1 (upd H1 p (.tup vs)):=Z7.new hp
 exact d _ _ (s1.trans e) ⟨F1,f1,⟨p,vs,rfl,⟨ZD,trivial⟩,p1.same e⟩,A1.grow e⟩
theorem Res.newF {H1:Hp}{F1:Nat->List Addr}{G:List Addr}{xs:List PV}{vs:List V}{p:Addr} (s1:Z7 H H1) (f1:∀i,∀a∈F1 i,a∈F i) (p1:Trees K H1 xs vs G) (o1:∀a∈G,a ∉ R/\(H a=none\/∃i,a∈F i)) (A1:Ag K B H0 H1 σ Γ' ρ F1 (G++R)) (hp:H1 p=none) :
  Res K B H0 H σ Γ' ρ F R .F (.lst xs) (.ref p) (upd H1 p (.lst vs)):=by
 have e:Z7 H1 (upd H1 p (.lst vs)):=Z7.new hp
 have hf:=A1.fresh hp
 refine⟨F1,f1,p::G,⟨p,vs,G,rfl,ZD,p1.same e,fun z=>hf.1 (ZtF _ z),rfl⟩,fun a ha=>?_,A1.new hp⟩
 rcases ZtN.mp ha with rfl|z
 ·exact⟨fun z=>hf.1 (ZtB _ z),.inl (s1.free hp)⟩
 ·exact o1 a z
theorem Res.newP {H1:Hp}{F1:Nat->List Addr}{xs:List PV}{vs:List V}{p:Addr}{S:Addr->Prop} (s1:Z7 H H1) (f1:∀i,∀a∈F1 i,a∈F i) (p1:Reps K H1 S xs vs) (hx:PV.flats xs=true) (A1:Ag K B H0 H1 σ Γ' ρ F1 R) (hp:H1 p=none) :
  Res K B H0 H σ Γ' ρ F R .F (.lst xs) (.ref p) (upd H1 p (.lst vs)):=Res.newF (G:=[]) s1 f1 (p1.trees hx) (by simp) A1 hp
theorem JW (ha:DAF K EX Γ Γ' ta fa):DE K EX Γ Γ' .F (ZlD ta) (fun ρ=>(fa ρ).bind mkL):=fun B H0 H σ ρ F R Q A d=>by
 refine ha B H0 H σ ρ F R _ A (d.bind.imp (fun xs _ d vs H1 F1 G s1 f1 p1 o1 A1=>?_) fun e q=>q)
 obtain⟨hl,d⟩:=d.mkL
 refine⟨by rw[p1.length];exact UT hl,fun p hp=>d _ _ (s1.trans (Z7.new hp)) (Res.newF s1 f1 p1 o1 A1 hp)⟩
noncomputable def pIx (x y:PV):Rr PV:=match x,y with
 |.lst xs,.int i=>match atI xs i with
  |some z=>.ok z
  |none=>.bad
 |.tup xs,.int i=>match atI xs i with
  |some z=>.ok z
  |none=>.bad
 |_,_=>.bad
theorem ZeM {S:Addr->Prop}{xs:List PV}{vs:List V}{i:Int}{z:PV} (h:Reps K H S xs vs) (e:atI xs i=some z):∃u,atI vs i=some u/\Rep K H S z u:=by
 unfold atI at e ⊢
 rw[h.length]
 cases q:ixN xs.length i with
 |none=>rw[q] at e;cases e
 |some j =>
  rw[q] at e
  obtain⟨u,e1,e2⟩:=h.get e
  exact⟨u,e1,e2⟩
theorem ZhZ {S:Addr->Prop}{x y z:PV}{v w:V}{Q:VK} (hx:Rep K H S x v) (hy:Rep K H (fun _=>True) y w) (e:pIx x y=.ok z) (q:∀u,Rep K H S z u->Q u H):rIx K v w H Q:=by
 cases x<;>cases y<;>first|(simp only[pIx] at e;cases e;done)|skip
 ·rename_i xs i
  obtain⟨a,vs,rfl,hn,hr⟩:=hx
  cases hy
  simp only[pIx] at e
  cases e1:atI xs i with
  |none=>rw[e1] at e;cases e
  |some z' =>
   rw[e1] at e;cases e
   obtain⟨u,e2,e3⟩:=ZeM hr e1
   exact .inl ⟨a,vs,i,u,rfl,rfl,Vr hn,e2,q u e3⟩
 ·rename_i xs i
  obtain⟨a,vs,rfl,hn,hr⟩:=hx
  cases hy
  simp only[pIx] at e
  cases e1:atI xs i with
  |none=>rw[e1] at e;cases e
  |some z' =>
   rw[e1] at e;cases e
   obtain⟨u,e2,e3⟩:=ZeM hr e1
   exact .inr (.inl ⟨a,vs,i,u,rfl,rfl,hn.sqT,e2,q u e3⟩)
theorem Zfj (x y:PV) (e:PX):pIx x y≠.exc e:=by
 cases x<;>cases y<;>first|(intro h;simp only[pIx] at h;cases h;done)|skip
 all_goals
  intro h
  simp only[pIx] at h
  split at h<;>cases h
theorem Dn.pIx {x y:PV}{ok:PV->Prop}{ex:PX->Prop} (d:Dn (pIx x y) ok ex):∃z,pIx x y=.ok z/\ok z:=by
 cases e:L2.pIx x y with
 |ok z=>rw[e] at d;exact⟨z,rfl,d⟩
 |exc q=>exact absurd e (Zfj x y q)
 |bad=>rw[e] at d;exact d.elim
theorem Zx {te ta':TE}{fa':List PV->Rr PV} (ha:DE K EX Γ Γ1 .A ta' fa') (hb:DE K EX Γ1 Γ2 .A tb fb):DE K EX Γ Γ2 .A (tOp (rIx K) ta' tb) (fun ρ=>(fa' ρ).bind fun x=>(fb ρ).bind fun y=>pIx x y):=fun B H0 H σ ρ F R Q A d=>by
 refine two ha hb A d.bind2 fun x y v w H' F' d s hF p1 p2 A'=>?_
 obtain⟨z,e,d⟩:=d.pIx
 exact ZhZ p1 p2 e fun u hu=>d u H' s ⟨F',hF,hu,A'⟩
theorem Zgc {te ta':TE}{fa':List PV->Rr PV} (ha:DE K EX Γ Γ1 .Z ta' fa') (hb:DE K EX Γ1 Γ2 .A tb fb):DE K EX Γ Γ2 .Z (tOp (rIx K) ta' tb) (fun ρ=>(fa' ρ).bind fun x=>(fb ρ).bind fun y=>pIx x y):=fun B H0 H σ ρ F R Q A d=>by
 refine ha B H0 H σ ρ F R _ A (d.bind.imp (fun x _ d v H1 s1 r1=>?_) fun e q=>q)
 obtain⟨F1,f1,p1,A1⟩:=r1
 refine hb B H0 H1 σ ρ F1 R _ A1 (d.bind.imp (fun y _ d w H2 s2 r2=>?_) fun e q=>q)
 obtain⟨F2,f2,p2,A2⟩:=r2
 obtain⟨z,e,d⟩:=d.pIx
 have p1':Rep K H2 (NO B F2 R) x v:=Rep.mono (fun a us s r=>⟨r.same s2,s.1,s.2.1,fun i z=>s.2.2 i (f2 i a z)⟩) (fun a us r=>s2.im r) p1
 exact ZhZ p1' p2 e fun u hu=>d u H2 (s1.trans s2) ⟨F2,fun i a h=>f1 i a (f2 i a h),hu,A2⟩
def CbP (K:W.Frag) (r:List V->Hp->VK->Prop) (o:List PV->Rr PV):Prop:=∀{H:Hp}{xs:List PV}{vs:List V}{Q:VK},Reps K H (fun _=>True) xs vs->∀z,o xs=.ok z->z.flat=true/\((∀u,Rep K H (fun _=>True) z u->Q u H)->r vs H Q)
theorem Zeq {r:List V->Hp->VK->Prop}{o:List PV->Rr PV} (hr:CbP K r o) (hx:∀xs e,o xs≠.exc e) (ha:DAA K EX Γ Γ' ta fa):DE K EX Γ Γ' .P (tCB r ta) (fun ρ=>(fa ρ).bind o):=fun B H0 H σ ρ F R Q A d=>by
 refine ha B H0 H σ ρ F R _ A (d.bind.imp (fun xs _ d vs H1 F1 s1 f1 p1 A1=>?_) fun e q=>q)
 cases e:o xs with
 |ok z =>
  rw[e] at d
  obtain⟨hf,h⟩:=hr (Q:=Q) p1 z e
  exact h fun u hu=>d u H1 s1 ⟨F1,f1,hf,hu,A1⟩
 |exc q=>exact absurd e (hx xs q)
 |bad=>rw[e] at d;exact d.elim
noncomputable def ZgB (xs:List PV):Rr PV:=match xs with
 |[.lst ys]=>.ok (.int ys.length)
 |[.tup ys]=>.ok (.int ys.length)
 |_=>.bad
theorem VF {S:Addr->Prop}{x:PV}{vs:List V} (h:Reps K H S [x] vs):∃v,vs=[v]/\Rep K H S x v:=by
 obtain⟨v,r,rfl,h1,h2⟩:=h
 cases h2
 exact⟨v,rfl,h1⟩
theorem Zk0 {S:Addr->Prop}{x y:PV}{vs:List V} (h:Reps K H S [x,y] vs):∃v w,vs=[v,w]/\Rep K H S x v/\Rep K H S y w:=by
 obtain⟨v,r,rfl,h1,w,r',rfl,h2,h3⟩:=h
 cases h3
 exact⟨v,w,rfl,h1,h2⟩
theorem ZW (ha:DAA K EX Γ Γ' ta fa):DE K EX Γ Γ' .P (tCB (fun xs H Q=>∃p ys,xs=[.ref p]/\(SqL K H p ys\/SqT K H p ys)/\Q (.int ys.length) H) ta) (fun ρ=>(fa ρ).bind ZgB):=by
 refine Zeq (fun {H xs vs Q} h z e=>?_) (fun xs e h=>?_) ha
 ·unfold ZgB at e
  split at e<;>first|(cases e;done)|skip
  all_goals
   cases e
   refine⟨rfl,fun q=>?_⟩
   obtain⟨v,rfl,a,ws,rfl,hn,hr⟩:=VF h
   refine⟨a,ws,rfl, ?_,by rw[hr.length];exact q _ rfl⟩
   first|exact .inl (Vr (S:=fun _=>True) hn)|exact .inr hn.sqT
 ·unfold ZgB at h;split at h<;>cases h
noncomputable def VJ:List PV->Option (List Int)
 |[]=>some []
 |.int i::xs=>(VJ xs).map (i::·)
 |_::_=>none
@[simp] theorem Zek (ns:List Int):VJ (ns.map PV.int)=some ns:=by
 induction ns with
 |nil=>rfl
 |cons n ns ih=>simp[VJ,ih]
theorem Uj:∀{xs:List PV}{ns:List Int},VJ xs=some ns->xs=ns.map PV.int
 |[],_,h=>by cases h;rfl
 |.int i::xs,ns,h=>by
  simp only[VJ] at h
  cases e:VJ xs with
  |none=>rw[e] at h;cases h
  |some ms=>rw[e] at h;cases h;rw[Uj e];rfl
 |.non::_,_,h=>by cases h
 |.bl _::_,_,h=>by cases h
 |.str _::_,_,h=>by cases h
 |.exc _::_,_,h=>by cases h
 |.exa _ _::_,_,h=>by cases h
 |.box _ _ _::_,_,h=>by cases h
 |.lst _::_,_,h=>by cases h
 |.tup _::_,_,h=>by cases h
theorem Qg {S:Addr->Prop}:∀{ns:List Int}{vs:List V},Reps K H S (ns.map PV.int) vs->vs=ns.map V.int
 |[],_,h=>h
 |n::ns,_,h=>by
  obtain⟨v,r,rfl,h1,h2⟩:=h
  cases h1
  rw[Qg h2];rfl
theorem Zby {S:Addr->Prop}:∀(ns:List Int),Reps K H S (ns.map PV.int) (ns.map V.int)
 |[]=>rfl
 |n::ns=>⟨_,_,rfl,rfl,Zby ns⟩
theorem UQ {S:Addr->Prop}{ns:List Int}{v:V} (h:Rep K H S (.lst (ns.map PV.int)) v):∃a,v=.ref a/\SqL K H a (ns.map V.int):=by
 obtain⟨a,vs,rfl,hn,hr⟩:=h
 rw[Qg hr] at hn
 exact⟨a,rfl,Vr hn⟩
noncomputable def Zbn (g:List Int->Rr PV) (xs:List PV):Rr PV:=match xs with
 |[.lst ys]=>match VJ ys with
  |some ns=>g ns
  |none=>.bad
 |_=>.bad
theorem Rr.ints {g:List Int->Rr PV}{xs:List PV}{z:PV} (e:Zbn g xs=.ok z):∃ns,xs=[.lst (ns.map PV.int)]/\g ns=.ok z:=by
 unfold Zbn at e
 split at e
 ·split at e
  ·rename_i ns h
   exact⟨ns,by rw[Uj h],e⟩
  ·cases e
 ·cases e
theorem Qr {g:List Int->Rr PV} (hg:∀ns e,g ns≠.exc e) (xs:List PV) (e:PX):Zbn g xs≠.exc e:=by
 intro h
 unfold Zbn at h
 split at h
 ·split at h
  ·exact hg _ _ h
  ·cases h
 ·cases h
noncomputable abbrev ZlY:=Zbn fun ns=>.ok (.int ns.sum)
theorem Q9 (ha:DAA K EX Γ Γ' ta fa):DE K EX Γ Γ' .P (tCB (fun xs H Q=>∃p,∃ns:List Int,xs=[.ref p]/\SqL K H p (ns.map V.int)/\Q (.int ns.sum) H) ta) (fun ρ=>(fa ρ).bind ZlY):=by
 refine Zeq (fun {H xs vs Q} h z e=>?_) (Qr fun ns e h=>by cases h) ha
 obtain⟨ns,rfl,e'⟩:=Rr.ints e
 cases e'
 obtain⟨v,rfl,h1⟩:=VF h
 obtain⟨a,rfl,h2⟩:=UQ h1
 exact⟨rfl,fun q=>⟨a,ns,rfl,h2,q _ rfl⟩⟩
noncomputable def ZgC:List Int->Int
 |[]=>0
 |[n]=>n
 |n::ns=>min n (ZgC ns)
theorem Za0:∀{ns:List Int},ns≠[]->ZgC ns∈ns
 |[],h=>absurd rfl h
 |[n],_=>by simp[ZgC]
 |n::m::ns,_=>by
  have:=Za0 (ns:=m::ns) (by simp)
  show min n (ZgC (m::ns))∈n::m::ns
  rcases Int.le_total n (ZgC (m::ns)) with h|h
  ·rw[Int.min_eq_left h];simp
  ·rw[Int.min_eq_right h];exact Zui _ this
theorem Zf3:∀{ns:List Int}{x:Int},x∈ns->ZgC ns<=x
 |[n],x,h=>by simp at h;subst h;exact Int.le_refl _
 |n::m::ns,x,h=>by
  show min n (ZgC (m::ns))<=x
  rcases ZtN.mp h with rfl|h
  ·exact Int.min_le_left _ _
  ·exact Int.le_trans (Int.min_le_right _ _) (Zf3 h)
theorem Zjr {ns:List Int}{m:Int} (h1:m∈ns) (h2:∀a∈ns,m<=a):m=ZgC ns:=Int.le_antisymm (h2 _ (Za0 (Zv2 h1))) (Zf3 h1)
noncomputable abbrev Zma:=Zbn fun ns=>if ns=[] then .bad else .ok (.int (ZgC ns))
theorem Zlu (ha:DAA K EX Γ Γ' ta fa):DE K EX Γ Γ' .P (tCB (Zk1 K) ta) (fun ρ=>(fa ρ).bind Zma):=by
 refine Zeq (fun {H xs vs Q} h z e=>?_) (Qr fun ns e h=>by split at h<;>cases h) ha
 obtain⟨ns,rfl,e'⟩:=Rr.ints e
 by_cases hn:ns=[]
 ·rw[if_pos hn] at e';cases e'
 rw[if_neg hn] at e'
 cases e'
 obtain⟨v,rfl,h1⟩:=VF h
 obtain⟨a,rfl,h2⟩:=UQ h1
 exact⟨rfl,fun q=>⟨a,ns,rfl,h2,Zvu.mpr hn,fun m hm hl=>by rw[Zjr hm hl];exact q _ rfl⟩⟩
noncomputable def Zc5:List PV->Option (List Bool)
 |[]=>some []
 |.bl i::xs=>(Zc5 xs).map (i::·)
 |_::_=>none
@[simp] theorem Zgx (ns:List Bool):Zc5 (ns.map PV.bl)=some ns:=by
 induction ns with
 |nil=>rfl
 |cons n ns ih=>simp[Zc5,ih]
theorem ZdI:∀{xs:List PV}{ns:List Bool},Zc5 xs=some ns->xs=ns.map PV.bl
 |[],_,h=>by cases h;rfl
 |.bl i::xs,ns,h=>by
  simp only[Zc5] at h
  cases e:Zc5 xs with
  |none=>rw[e] at h;cases h
  |some ms=>rw[e] at h;cases h;rw[ZdI e];rfl
 |.non::_,_,h=>by cases h
 |.int _::_,_,h=>by cases h
 |.str _::_,_,h=>by cases h
 |.exc _::_,_,h=>by cases h
 |.exa _ _::_,_,h=>by cases h
 |.box _ _ _::_,_,h=>by cases h
 |.lst _::_,_,h=>by cases h
 |.tup _::_,_,h=>by cases h
theorem ZcW {S:Addr->Prop}:∀{ns:List Bool}{vs:List V},Reps K H S (ns.map PV.bl) vs->vs=ns.map V.bl
 |[],_,h=>h
 |n::ns,_,h=>by
  obtain⟨v,r,rfl,h1,h2⟩:=h
  cases h1
  rw[ZcW h2];rfl
noncomputable def ZkG (xs:List PV):Rr PV:=match xs with
 |[.lst ys]=>match Zc5 ys with
  |some bs=>.ok (.bl (bs.all id))
  |none=>.bad
 |_=>.bad
theorem Zgg (ha:DAA K EX Γ Γ' ta fa):DE K EX Γ Γ' .P (tCB (fun xs H Q=>∃p,∃bs:List Bool,xs=[.ref p]/\SqL K H p (bs.map V.bl)/\Q (.bl (bs.all id)) H) ta) (fun ρ=>(fa ρ).bind ZkG):=by
 refine Zeq (fun {H xs vs Q} h z e=>?_) (fun xs e h=>?_) ha
 ·unfold ZkG at e
  split at e
  ·split at e
   ·rename_i bs hb
    cases e
    rw[ZdI hb] at h
    obtain⟨v,rfl,a,ws,rfl,hn,hr⟩:=VF h
    rw[ZcW hr] at hn
    exact⟨rfl,fun q=>⟨a,bs,rfl,Vr (S:=fun _=>True) hn,q _ rfl⟩⟩
   ·cases e
  ·cases e
 ·unfold ZkG at h
  split at h
  ·split at h<;>cases h
  ·cases h
noncomputable def ZkE (xs:List PV):Rr PV:=match xs with
 |[.int i]=>.ok (.int i)
 |[.bl b]=>.ok (.int (if b then 1 else 0))
 |_=>.bad
theorem ZhE (ha:DAA K EX Γ Γ' ta fa):DE K EX Γ Γ' .P (tCB (fun xs H Q=>(∃i,xs=[.int i]/\Q (.int i) H)\/∃k,xs=[.bl k]/\Q (.int (if k then 1 else 0)) H) ta) (fun ρ=>(fa ρ).bind ZkE):=by
 refine Zeq (fun {H xs vs Q} h z e=>?_) (fun xs e h=>?_) ha
 ·unfold ZkE at e
  split at e<;>first|(cases e;done)|skip
  ·cases e
   obtain⟨v,rfl,h1⟩:=VF h
   cases h1
   exact⟨rfl,fun q=>.inl ⟨_,rfl,q _ rfl⟩⟩
  ·cases e
   obtain⟨v,rfl,h1⟩:=VF h
   cases h1
   exact⟨rfl,fun q=>.inr ⟨_,rfl,q _ rfl⟩⟩
 ·unfold ZkE at h;split at h<;>cases h
end
theorem Ug {n:Nat} (h:n<=1000000):n<=sizeLine:=ZtV h (by decide)
section
end
def Frm (H:Hp) (F:Nat->List Addr) (H':Hp) (F':Nat->List Addr):Prop:=∀a o,H a=some o->(∀i,a ∉ F i)->H' a=some o/\∀i,a ∉ F' i
theorem Frm.refl {H:Hp}{F:Nat->List Addr}:Frm H F H F:=fun a o h n=>⟨h,n⟩
theorem Frm.trans {H H1 H2:Hp}{F F1 F2:Nat->List Addr} (h1:Frm H F H1 F1) (h2:Frm H1 F1 H2 F2):Frm H F H2 F2:=fun a o h n=>let ⟨h3,n3⟩:=h1 a o h n;h2 a o h3 n3
theorem Frm.of {H H':Hp}{F F':Nat->List Addr} (s:Z7 H H') (f:∀i,∀a∈F' i,a∈F i):Frm H F H' F':=fun a o h n=>⟨s a o h,fun i z=>n i (f i a z)⟩
def ItP (K:W.Frag) (S:Addr->Prop) (J:It) (xs:List PV) (H:Hp):Prop:=
 ∀i,(∀x,xs[i]?=some x->J.go i H/\∀v H',J.yld i H v H'->Z7 H H'/\Rep K H' S x v)/\(xs[i]?=none->J.stop i H)
def DI (K:W.Frag) (EX:PX->Hp->Prop) (Γ Γ':List Md) (wi:TI) (f:List PV->Rr (List PV)):Prop:=
 ∀(B:Addr->Prop) (H0 H:Hp) (σ:St) (ρ:List PV) (F:Nat->List Addr) (R:List Addr) (Q:It->Hp->Prop),Ag K B H0 H σ Γ ρ F R ->
  Dn (f ρ) (fun xs=>∀J H' F',Z7 H H'->(∀i,∀a∈F' i,a∈F i)->Ag K B H0 H' σ Γ' ρ F' R->(∀H2 F2,Frm H' F' H2 F2->ItP K (fun a=>NO B F2 R a/\H' a≠none/\∀i,a ∉ F' i) J xs H2)->Q J H') (fun e=>∀H',Z7 H0 H'->EX e H')->wi σ H Q
def DIc (K:W.Frag) (EX:PX->Hp->Prop) (Γ Γ':List Md) (wi:TI) (f:List PV->Rr (List PV)):Prop:=
 ∀(B:Addr->Prop) (H0 H:Hp) (σ:St) (ρ:List PV) (F:Nat->List Addr) (R:List Addr) (Q:It->Hp->Prop),Ag K B H0 H σ Γ ρ F R ->
  Dn (f ρ) (fun xs=>∀J H' F',Z7 H H'->(∀i,∀a∈F' i,a∈F i)->Ag K B H0 H' σ Γ' ρ F' R->(∀H2 F2,Z7 H' H2->(∀i,∀a∈F2 i,a∈F' i)->ItP K (fun a=>NO B F2 R a/\H' a≠none/\∀i,a ∉ F' i) J xs H2)->Q J H') (fun e=>∀H',Z7 H0 H'->EX e H')->wi σ H Q
theorem DI.c {K:W.Frag}{EX:PX->Hp->Prop}{Γ Γ':List Md}{wi:TI}{f:List PV->Rr (List PV)} (h:DI K EX Γ Γ' wi f):DIc K EX Γ Γ' wi f:=fun B H0 H σ ρ F R Q A d =>
 h B H0 H σ ρ F R Q A (d.imp (fun xs _ d J H' F' s1 f1 A1 it=>d J H' F' s1 f1 A1 fun H2 F2 s2 f2=>it H2 F2 (Frm.of s2 f2)) fun e q=>q)
section
variable {K:W.Frag}{B:Addr->Prop}{EX:PX->Hp->Prop}{H0 H H':Hp}{σ:St}{Γ Γ' Γ1 Γ2 Γ3:List Md}{ρ:List PV}{F F':Nat->List Addr}{R:List Addr}{k:Kd}{x:PV}{v:V}{te:TE}{ta:TA}{f:List PV->Rr PV}{fa:List PV->Rr (List PV)}
theorem Rep.frm {F2:Nat->List Addr}{H2:Hp} (h:Frm H F H2 F2) (A:Ag K B H0 H σ Γ ρ F R) (r:Rep K H (NO B F R) x v):Rep K H2 (fun a=>NO B F2 R a/\H a≠none/\∀i,a ∉ F i) x v:=by
 refine Rep.mono (fun a us s r=>?_) (fun a us r=>?_) r
 ·rcases r with r|⟨o,r⟩
  ·obtain⟨h1,h2⟩:=h a _ r s.2.2;exact⟨.inl h1,⟨s.1,s.2.1,h2⟩,by rw[r];simp,s.2.2⟩
  ·obtain⟨h1,h2⟩:=h a _ r s.2.2;exact⟨.inr ⟨o,h1⟩,⟨s.1,s.2.1,h2⟩,by rw[r];simp,s.2.2⟩
 ·refine⟨(h a _ r.1 fun i z=>?_).1,r.2⟩
  obtain⟨vs,q⟩:=A.live i a z
  exact Za4 vs.2 r.2 (by rw[r.1] at q;exact Option.some.inj q)
noncomputable def ZbN (lo:Int) (n:Nat):List PV:=(List.range n).map fun(k:Nat)=>PV.int (lo+(k:Int))
theorem ZfC {lo:Int}{n:Nat}{S:Addr->Prop}:ItP K S (Itr lo n) (ZbN lo n) H:=by
 intro i
 constructor
 ·intro x hx
  unfold ZbN at hx
  rw[ZtT] at hx
  by_cases h:i<n
  ·rw[Zvv h] at hx
   cases hx
   exact⟨h,fun v H' ⟨e1,e2⟩=>by subst e1 e2;exact⟨Z7.refl _,rfl⟩⟩
  ·rw[Zuk (by simpa using h)] at hx;cases hx
 ·intro hx
  unfold ZbN at hx
  have:=Zux.mp hx
  show n<=i
  simpa using this
noncomputable def okR (j:Int):Bool:=decide (-(2^62)<=j/\j<2^62)
noncomputable def Zhi (xs:List PV):Rr (List PV):=match xs with
 |[.int j]=>if okR j=true then .ok (ZbN 0 j.toNat) else .bad
 |_=>.bad
noncomputable def Zhh (xs:List PV):Rr (List PV):=match xs with
 |[.int i,.int j]=>if (okR i&&okR j)=true then .ok (ZbN i (j-i).toNat) else .bad
 |_=>.bad
theorem J4 (ha:DAA K EX Γ Γ' ta fa):DI K EX Γ Γ' (ZkZ ta) (fun ρ=>(fa ρ).bind Zhi):=fun B H0 H σ ρ F R Q A d=>by
 refine ha B H0 H σ ρ F R _ A (d.bind.imp (fun xs _ d vs H1 F1 s1 f1 p1 A1=>?_) fun e q=>q)
 unfold Zhi at d
 split at d
 ·rename_i j _
  obtain⟨v,rfl,h1⟩:=VF p1
  cases h1
  by_cases h:okR j=true
  ·rw[if_pos h] at d
   have h':=of_decide_eq_true h
   exact⟨j,rfl,h'.1,h'.2,d _ H1 F1 s1 f1 A1 fun H2 F2 _=>ZfC⟩
  ·rw[if_neg h] at d;exact d.elim
 ·exact d.elim
theorem Zcv (ha:DAA K EX Γ Γ' ta fa):DI K EX Γ Γ' (ZkY ta) (fun ρ=>(fa ρ).bind Zhh):=fun B H0 H σ ρ F R Q A d=>by
 refine ha B H0 H σ ρ F R _ A (d.bind.imp (fun xs _ d vs H1 F1 s1 f1 p1 A1=>?_) fun e q=>q)
 unfold Zhh at d
 split at d
 ·rename_i i j _
  obtain⟨v,w,rfl,h1,h2⟩:=Zk0 p1
  cases h1;cases h2
  by_cases h:(okR i&&okR j)=true
  ·rw[if_pos h] at d
   rw[Bool.and_eq_true] at h
   have h':=of_decide_eq_true h.1
   have h'':=of_decide_eq_true h.2
   exact⟨i,j,rfl,⟨h'.1,h'.2,h''.1,h''.2⟩,d _ H1 F1 s1 f1 A1 fun H2 F2 _=>ZfC⟩
  ·rw[if_neg h] at d;exact d.elim
 ·exact d.elim
noncomputable def asL (x:PV):Rr (List PV):=match x with
 |.lst xs=>.ok xs
 |_=>.bad
theorem Zj0 {a:Addr}{xs:List PV}{S:Addr->Prop} (h:Rep K H S (.lst xs) (.ref a)):ItP K S (Itl K a) xs H:=by
 obtain⟨a',vs,e,hn,hr⟩:=h
 cases e
 intro i
 constructor
 ·intro x hx
  obtain⟨u,e1,e2⟩:=hr.get hx
  refine⟨⟨vs,u,Vr hn,e1⟩,fun v H' ⟨e,y⟩=>?_⟩
  subst e
  have:=y vs (Vr hn)
  rw[e1] at this;cases this
  exact⟨Z7.refl _,e2⟩
 ·intro hx
  exact⟨vs,Vr hn,by rw[hr.length];exact Zux.mp hx⟩
theorem Jx (he:DE K EX Γ Γ' .Z te f):DI K EX Γ Γ' (Zj1 K te) (fun ρ=>(f ρ).bind asL):=fun B H0 H σ ρ F R Q A d=>by
 refine he B H0 H σ ρ F R _ A (d.bind.imp (fun x _ d v H1 s1 r1=>?_) fun e q=>q)
 obtain⟨F1,f1,p1,A1⟩:=r1
 cases x with
 |lst xs =>
  obtain⟨a,vs,rfl,hn,hr⟩:=id p1
  exact⟨a,rfl,⟨vs,Vr hn⟩,d _ H1 F1 s1 f1 A1 fun H2 F2 h=>Zj0 (p1.frm h A1)⟩
 |_=>exact d.elim
theorem Zb4:∀{ns:List Int},PV.flats (ns.map PV.int)=true
 |[]=>rfl
 |n::ns=>by simp only[ZtP,PV.flats,PV.flat,Zb4,Bool.and_self]
def DO (K:W.Frag) (EX:PX->Hp->Prop) (Γ Γ':List Md) (t:TO) (f:List PV->Rr (Option Int)):Prop:=
 ∀(B:Addr->Prop) (H0 H:Hp) (σ:St) (ρ:List PV) (F:Nat->List Addr) (R:List Addr) (Q:Option Int->Hp->Prop),Ag K B H0 H σ Γ ρ F R ->
  Dn (f ρ) (fun o=>∀H' F',Z7 H H'->(∀i,∀a∈F' i,a∈F i)->Ag K B H0 H' σ Γ' ρ F' R->Q o H') (fun e=>∀H',Z7 H0 H'->EX e H')->t σ H Q
theorem Zcs:DO K EX Γ Γ ZeA (fun _=>.ok none):=fun B H0 H σ ρ F R Q A d=>d H F (Z7.refl H) (fun _ _ h=>h) A
noncomputable def asI (x:PV):Rr Int:=match x with
 |.int i=>.ok i
 |_=>.bad
theorem Dn.asI {x:PV}{ok:Int->Prop}{ex:PX->Prop} (d:Dn (asI x) ok ex):∃b,x=.int b/\ok b:=by
 cases x with
 |int b=>exact⟨b,rfl,d⟩
 |_=>exact d.elim
theorem Zcr (he:DE K EX Γ Γ' .A te f):DO K EX Γ Γ' (Zkn te) (fun ρ=>(f ρ).bind fun x=>(asI x).bind fun i=>.ok (some i)):=fun B H0 H σ ρ F R Q A d=>by
 refine he B H0 H σ ρ F R _ A (d.bind.imp (fun x _ d v H1 s1 r1=>?_) fun e q=>q)
 obtain⟨i,rfl,d⟩:=d.bind.asI
 obtain⟨F1,f1,p1,A1⟩:=r1
 cases p1
 exact⟨i,rfl,d H1 F1 s1 f1 A1⟩
noncomputable def ZjJ {α:Type} (xs:List α) (lo hi:Option Int):List α:=(xs.drop (HT.sIx xs.length 0 lo)).take (HT.sIx xs.length xs.length hi-HT.sIx xs.length 0 lo)
theorem Reps.cut {S:Addr->Prop}{xs:List PV}{vs:List V} (h:Reps K H S xs vs) (lo hi:Option Int):Reps K H S (ZjJ xs lo hi) (Zkb vs lo hi):=by
 unfold ZjJ Zkb
 rw[h.length]
 exact(h.drop _).take _
noncomputable def newF (xs:List PV):Rr PV:=if (PV.flats xs&&decide (xs.length<=1000000))=true then .ok (.lst xs) else .bad
theorem Dn.newF {xs:List PV}{ok:PV->Prop}{ex:PX->Prop} (d:Dn (newF xs) ok ex):PV.flats xs=true/\xs.length<=1000000/\ok (.lst xs):=by
 unfold L2.newF at d
 by_cases h:(PV.flats xs&&decide (xs.length<=1000000))=true
 ·rw[if_pos h] at d
  rw[Bool.and_eq_true] at h
  exact⟨h.1,of_decide_eq_true h.2,d⟩
 ·rw[if_neg h] at d;exact d.elim
theorem ZfY {tl th:TO}{fl fh:List PV->Rr (Option Int)} (he:DE K EX Γ Γ1 .A te f) (hl:DO K EX Γ1 Γ2 tl fl) (hh:DO K EX Γ2 Γ3 th fh) :
  DE K EX Γ Γ3 .F (tSl (ZlU K) te tl th) (fun ρ=>(f ρ).bind fun x=>(fl ρ).bind fun lo=>(fh ρ).bind fun hi=>(asL x).bind fun xs=>newF (ZjJ xs lo hi)):=fun B H0 H σ ρ F R Q A d=>by
 refine he B H0 H σ ρ F R _ A (d.bind.imp (fun x _ d v H1 s1 r1=>?_) fun e q=>q)
 obtain⟨F1,f1,p1,A1⟩:=r1
 refine hl B H0 H1 σ ρ F1 R _ A1 (d.bind.imp (fun lo _ d H2 F2 s2 f2 A2=>?_) fun e q=>q)
 refine hh B H0 H2 σ ρ F2 R _ A2 (d.bind.imp (fun hi _ d H3 F3 s3 f3 A3=>?_) fun e q=>q)
 cases x with
 |lst xs =>
  obtain⟨h1,h2,d⟩:=Dn.newF d
  obtain⟨a,vs,rfl,hn,hr⟩:=(p1.same s2).same s3
  refine⟨a,vs,rfl,Vr (S:=fun _=>True) hn,fun p hp=>?_⟩
  exact d _ _ (((s1.trans s2).trans s3).trans (Z7.new hp)) (Res.newP ((s1.trans s2).trans s3) (fun i a h=>f1 i a (f2 i a (f3 i a h))) (hr.cut lo hi) h1 A3 hp)
 |_=>exact d.elim
noncomputable def ZdV (xs:List PV):Rr PV:=match xs with
 |[.lst ys]=>newF ys
 |[.tup ys]=>newF ys
 |_=>.bad
theorem JT (ha:DAA K EX Γ Γ' ta fa):DE K EX Γ Γ' .F (tCB (fun xs H Q=>∃p ys,xs=[.ref p]/\(SqL K H p ys\/SqT K H p ys)/\∀l,H l=none->Q (.ref l) (upd H l (.lst ys))) ta) (fun ρ=>(fa ρ).bind ZdV):=fun B H0 H σ ρ F R Q A d=>by
 refine ha B H0 H σ ρ F R _ A (d.bind.imp (fun xs _ d vs H1 F1 s1 f1 p1 A1=>?_) fun e q=>q)
 unfold ZdV at d
 split at d
 ·obtain⟨h1,h2,d⟩:=Dn.newF d
  obtain⟨v,rfl,a,ws,rfl,hn,hr⟩:=VF p1
  exact⟨a,ws,rfl,.inl (Vr (S:=fun _=>True) hn),fun l hl=>d _ _ (s1.trans (Z7.new hl)) (Res.newP s1 f1 hr h1 A1 hl)⟩
 ·obtain⟨h1,h2,d⟩:=Dn.newF d
  obtain⟨v,rfl,a,ws,rfl,hn,hr⟩:=VF p1
  exact⟨a,ws,rfl,.inr hn.sqT,fun l hl=>d _ _ (s1.trans (Z7.new hl)) (Res.newP s1 f1 hr h1 A1 hl)⟩
 ·exact d.elim
noncomputable def Vn:PV->String
 |.non => "NoneType"
 |.bl _ => "bool"
 |.int _ => "int"
 |.str _ => "str"
 |.lst _ => "list"
 |.tup _ => "tuple"
 |.exc _ => "?"
 |.exa _ _ => "?"
 |.box _ (.dk _) _ => "dict"
 |.box _ (.dt _) _ => "dict"
 |.box _ (.ob _ _) _ => "?"
 |.box _ .jk _ => "?"
noncomputable def PV.isX:PV->Bool
 |.exc _=>true
 |.exa _ _=>true
 |.box _ _ _=>true
 |_=>false
noncomputable def Q0 (t n:String):Bool:=t==n || (t == "bool" && n == "int")
noncomputable def ZlP (n:String):Bool:=n == "int" || n == "bool" || n == "str" || n == "list" || n == "tuple"
theorem ZkO (K:W.Frag) {n:String} (h:ZlP n=true) (x:PV) (hx:x.isX=false):PySem.W.kitOne K (.type (Vn x)) (.type n)=some (Q0 (Vn x) n):=by
 simp only[ZlP,Bool.or_eq_true,beq_iff_eq] at h
 rcases h with (((rfl|rfl)|rfl)|rfl)|rfl<;>cases x<;>first|rfl|cases hx
def ZmB (K:W.Frag) (n:String):List V->Hp->VK->Prop:=fun xs H Q=>∃x p,xs=[x,.ty n]/\Rep K H (fun _=>True) p x/\p.isX=false/\Q (.bl (Q0 (Vn p) n)) H
theorem Ji {X:Cx}{n:String} (hn:ZlP n=true) (e:X.K=K:=by rfl):JX X (.builtin "isinstance") (ZmB K n):=by
 subst e
 intro pins s σ H xs us Q I r h
 obtain⟨x,p,rfl,hp,hx,q⟩:=h
 obtain⟨u,w',rfl,rx,rn⟩:=Zkj r
 cases rn
 have e:=ZkO X.K hn p hx
 have fin:∀tk,EP X pins σ Q (.bool (Q0 (Vn p) n)) { s with toks:=tk }:=fun tk=>⟨.bl _,H,I.tok _,rfl,q⟩
 cases p with
 |non=>cases hp;cases rx;exact PySem.W.kia_one PySem.W.kitx_none I.kIn True.intro e (fun z=>nomatch z) fin
 |bl y=>cases hp;cases rx;exact PySem.W.kia_one PySem.W.kitx_bool I.kIn True.intro e (fun z=>nomatch z) fin
 |int i=>cases hp;obtain⟨t,rfl⟩:=rx;exact PySem.W.kia_one PySem.W.kitx_int I.kIn True.intro e (fun z=>nomatch z) fin
 |str y=>cases hp;obtain⟨t,rfl⟩:=rx;exact PySem.W.kia_one PySem.W.kitx_str I.kIn True.intro e (fun z=>nomatch z) fin
 |exc y=>cases hx
 |exa y i=>cases hx
 |box p s ps=>cases hx
 |lst ps =>
  obtain⟨a,vs,rfl,hn',hr⟩:=hp
  cases rx
  obtain⟨its,_,pl,_⟩:=I.list (Vr (S:=fun _=>True) hn')
  obtain⟨o,h1,h2,_⟩:=pl.isList
  exact PySem.W.kia_one PySem.W.kitx_list I.kIn ⟨o,h1,h2⟩ e (fun z=>nomatch z) fin
 |tup ps =>
  obtain⟨a,vs,rfl,hn',hr⟩:=hp
  cases rx
  obtain⟨its,_,⟨o,h1,h2,_⟩,_⟩:=I.tuple hn'.sqT
  exact PySem.W.kia_one PySem.W.kitx_tuple I.kIn ⟨o,h1,h2⟩ e (fun z=>nomatch z) fin
noncomputable def ZkD (n:String) (x:PV):Rr PV:=if x.isX=true then .bad else .ok (.bl (Q0 (Vn x) n))
theorem V4 {n:String} (he:DE K EX Γ Γ' .A te f):DE K EX Γ Γ' .P (tCB (ZmB K n) (Qb te (Qb (tC (.ty n)) Zey))) (fun ρ=>(f ρ).bind (ZkD n)):=fun B H0 H σ ρ F R Q A d=>by
 refine he B H0 H σ ρ F R _ A (d.bind.imp (fun x _ d v H1 s1 r1=>?_) fun e q=>q)
 obtain⟨F1,f1,p1,A1⟩:=r1
 unfold ZkD at d
 cases hx:x.isX with
 |true=>rw[hx] at d;exact d.elim
 |false=>rw[hx] at d;exact⟨v,x,rfl,p1,hx,d _ H1 s1 ⟨F1,f1,rfl,rfl,A1⟩⟩
def Len (fa:List PV->Rr (List PV)) (n:Nat):Prop:=∀ρ xs,fa ρ=.ok xs->xs.length=n
theorem Zq:Len (fun _=>.ok []) 0:=fun ρ xs h=>by cases h;rfl
theorem Ze {f:List PV->Rr PV}{fa:List PV->Rr (List PV)}{n:Nat} (h:Len fa n):Len (fun ρ=>(f ρ).bind fun x=>(fa ρ).bind fun xs=>.ok (x::xs)) (n+1):=fun ρ xs e=>by
 dsimp only at e
 cases h1:f ρ with
 |ok x =>
  rw[h1] at e
  cases h2:fa ρ with
  |ok ys=>simp only[Rr.bind_ok,h2] at e;cases e;simp[h ρ ys h2]
  |exc q=>simp only[Rr.bind_ok,h2,Rr.bind_exc] at e;cases e
  |bad=>simp only[Rr.bind_ok,h2,Rr.bind_bad] at e;cases e
 |exc q=>rw[h1] at e;cases e
 |bad=>rw[h1] at e;cases e
def Zi6 (K:W.Frag) (B:Addr->Prop) (H:Hp) (k:Kd) (x:PV) (v:V) (H':Hp):Prop:=match k with
 |.P=>x.flat=true/\Rep K H' (fun _=>True) x v
 |.F=>∃G,ZZ K H' x v G/\∀a∈G,H a=none
 |.N=>∃y a s xs G1 G2,x=.tup [y,.box (some a) s xs]/\ZZ K H' y v G1/\ZZ K H' (.box (some a) s xs) (.ref a) G2/\(∀b∈G1,b ∉ G2)/\(∀b∈G1,H b=none)/\∀b∈G2,H b=none
 |_=>Rep K H' (fun a=>B a\/H a=none) x v
noncomputable def spF (K:PySem.W.Frag) (n:Nat) (k:Kd) (W:PX->XK->Hp->Prop) (m:List PV->Rr PV):Sp:=fun vs H Q E=>∃B xs,Reps K H B xs vs/\xs.length=n /\
 Dn (m xs) (fun x=>∀v H',Z7 H H'->Zi6 K B H k x v H'->Q v H') (fun e=>∀H',Z7 H H'->W e E H')
def W0:PX->XK->Hp->Prop:=fun _ _ _=>False
def X0:PX->Hp->Prop:=fun _ _=>False
section
variable {n:Nat}{W:PX->XK->Hp->Prop}{m:List PV->Rr PV}{E:XK}
theorem Zd9 {t:TE} (ht:∀σ H Q,(ta σ H fun vs H1=>spF K n .P W m vs H1 Q E)->t σ H Q) (hW:∀e H',EX e H'->W e E H') (hn:Len fa n) (ha:DAA K EX Γ Γ' ta fa):DE K EX Γ Γ' .P t (fun ρ=>(fa ρ).bind m):=fun B H0 H σ ρ F R Q A d=>by
 refine ht _ _ _ (ha B H0 H σ ρ F R _ A (d.bind.imp (fun xs hx d vs H1 F1 s1 f1 p1 A1=>?_) fun e q=>q))
 exact⟨fun _=>True,xs,p1,hn ρ xs hx,d.imp (fun x _ d v H2 s2 r=>d v H2 (s1.trans s2) ⟨F1,f1,r.1,r.2,A1.grow s2⟩) fun e q H2 s2=>hW e H2 (q H2 (A1.same.trans s2))⟩
theorem ZdA {t:TE} (ht:∀σ H Q,(ta σ H fun vs H1=>spF K n .F W m vs H1 Q E)->t σ H Q) (hW:∀e H',EX e H'->W e E H') (hn:Len fa n) (ha:DAA K EX Γ Γ' ta fa):DE K EX Γ Γ' .F t (fun ρ=>(fa ρ).bind m):=fun B H0 H σ ρ F R Q A d=>by
 refine ht _ _ _ (ha B H0 H σ ρ F R _ A (d.bind.imp (fun xs hx d vs H1 F1 s1 f1 p1 A1=>?_) fun e q=>q))
 refine⟨fun _=>True,xs,p1,hn ρ xs hx,d.imp (fun x _ d v H2 s2 r=>?_) fun e q H2 s2=>hW e H2 (q H2 (A1.same.trans s2))⟩
 obtain⟨G,r1,r2⟩:=r
 exact d v H2 (s1.trans s2) ⟨F1,f1,G,r1,fun a ha=>⟨(A1.fresh (r2 a ha)).1,.inl (s1.free (r2 a ha))⟩,A1.more s2 r2 r1.alive⟩
end
end
noncomputable def ZaP {α β:Type} (f:α->Rr β):List α->Rr (List β)
 |[]=>.ok []
 |x::xs=>(f x).bind fun y=>(ZaP f xs).bind fun ys=>.ok (y::ys)
noncomputable def lenM (xs:List PV):Rr Unit:=if xs.length<=1000000 then .ok () else .bad
theorem Dn.lenM {xs:List PV}{ok:Unit->Prop}{ex:PX->Prop} (d:Dn (lenM xs) ok ex):xs.length<=1000000/\ok ():=by
 unfold L2.lenM at d
 by_cases h:xs.length<=1000000
 ·rw[if_pos h] at d;exact⟨h,d⟩
 ·rw[if_neg h] at d;exact d.elim
theorem Rr.assoc {α β γ:Type}{r:Rr α}{f:α->Rr β}{g:β->Rr γ}:(r.bind f).bind g=r.bind fun a=>(f a).bind g:=by cases r<;>rfl
section
variable {K:W.Frag}{B:Addr->Prop}{EX:PX->Hp->Prop}{H0 H H':Hp}{σ:St}{Γ Γ1:List Md}{ρ:List PV}{F:Nat->List Addr}{R:List Addr}{x:PV}{v:V}{te:TE}{fe:List PV->Rr PV}
theorem Ag.outF (A:Ag K B H0 H σ Γ ρ F R) {i:Nat} (h:Γ.length<=i):F i=[]:=by
 have:=A.slot i
 rw[Zt8,Zuk h] at this
 exact this
theorem Ag.push (A:Ag K B H0 H σ Γ ρ F R) (h:Rep K H (NO B F R) x v):Ag K B H0 H (σ++[some v]) (Γ++[.S]) (ρ++[x]) F R:=by
 refine⟨A.same,A.own,A.young,A.youngR,A.live,A.liveR,A.disj,A.disjR,by simp[A.lenS],by simp[A.lenR],fun i=>?_⟩
 by_cases h1:i<Γ.length
 ·have:=A.slot i
  rw[Zt8,Zt8,ZtI h1,ZtI (by rw[A.lenR];exact h1),ZtI (by rw[A.lenS];exact h1),<- Zt8,<- Zt8]
  exact this
 ·by_cases h2:i=Γ.length
  ·subst h2
   rw[Zt8,Zt8,ZtJ (ZtE _),ZtJ (by rw[A.lenR];exact ZtE _),ZtJ (by rw[A.lenS];exact ZtE _),A.lenR,A.lenS]
   simp only[Zvj,Zu2,ZuT]
   exact⟨A.outF (ZtE _),v,rfl,h⟩
  ·rw[Zt8,Zuk (by simp;omega)]
   exact A.outF (by omega)
theorem Ag.pop {o:Option V} (A:Ag K B H0 H (σ++[o]) (Γ++[.S]) (ρ++[x]) F R):Ag K B H0 H σ Γ ρ F R:=by
 have l1:σ.length=Γ.length:=by have:=A.lenS;simpa using this
 have l2:ρ.length=Γ.length:=by have:=A.lenR;simpa using this
 refine⟨A.same,A.own,A.young,A.youngR,A.live,A.liveR,A.disj,A.disjR,l1,l2,fun i=>?_⟩
 have:=A.slot i
 by_cases h1:i<Γ.length
 ·rw[Zt8,Zt8,ZtI h1,ZtI (by rw[l2];exact h1),ZtI (by rw[l1];exact h1),<- Zt8,<- Zt8] at this
  exact this
 ·rw[Zt8,Zuk (by omega)]
  by_cases h2:i=Γ.length
  ·subst h2
   rw[Zt8,ZtJ (ZtE _)] at this
   simp only[Zvj,Zu2,ZuT] at this
   exact this.1
  ·exact A.outF (by simp;omega)
theorem JU {wi:TI}{fi:List PV->Rr (List PV)} (hi:DIc K EX Γ Γ1 wi fi) (he:DE K EX (Γ1++[.S]) (Γ1++[.S]) .F te fe) :
  DE K EX Γ Γ1 .F (ZgN wi te) (fun ρ=>(fi ρ).bind fun xs=>(lenM xs).bind fun _=>(ZaP (fun x=>fe (ρ++[x])) xs).bind fun ys=>.ok (.lst ys)):=fun B H0 H σ ρ F R Q A d=>by
 refine hi B H0 H σ ρ F R _ A (d.bind.imp (fun xs _ d J H1 F1 s1 f1 A1 it=>?_) fun e q=>q)
 obtain⟨hlen,d⟩:=Dn.lenM d.bind
 refine⟨fun i m ys H2=>∃zs G F2,m=xs.length-i/\i<=xs.length/\ys.length=i/\Z7 H1 H2/\Trees K H2 zs ys G/\(∀a∈G,a ∉ R/\(H1 a=none\/∃j,a∈F1 j))/\(∀i,∀a∈F2 i,a∈F1 i)/\Ag K B H0 H2 σ Γ1 ρ F2 (G++R) /\
  Dn ((ZaP (fun x=>fe (ρ++[x])) (xs.drop i)).bind fun ys'=>.ok (.lst (zs++ys'))) (fun x=>∀v H',Z7 H H'->Res K B H0 H σ Γ1 ρ F R .F x v H'->Q v H') (fun e=>∀H',Z7 H0 H'->EX e H'),
  ⟨xs.length,[],[],F1,by simp,Zub _,rfl,Z7.refl _,⟨rfl,rfl⟩,by simp,fun _ _ h=>h,A1,by simpa using d⟩, ?_⟩
 rintro i m ys H2 ⟨zs,G,F2,rfl,hi',hl,s2,tr,o2,f2,A2,dn⟩
 refine⟨Ug (by omega), ?_⟩
 have itp:=it H2 F2 s2 f2 i
 cases hx:xs[i]? with
 |none =>
  refine .inl ⟨itp.2 hx,fun p hp=>?_⟩
  have hd:xs.drop i=[]:=Zu8 (Zux.mp hx)
  rw[hd] at dn
  have dn':∀v H',Z7 H H'->Res K B H0 H σ Γ1 ρ F R .F (.lst (zs++[])) v H'->Q v H':=dn
  rw[Zu9] at dn'
  exact dn' _ _ ((s1.trans s2).trans (Z7.new hp)) (Res.newF (s1.trans s2) (fun i a h=>f1 i a (f2 i a h)) tr (fun a ha=>⟨(o2 a ha).1,(o2 a ha).2.elim (fun z=>.inl (s1.free z)) fun⟨j,z⟩=>.inr ⟨j,f1 j a z⟩⟩) A2 hp)
 |some x =>
  have hlt:i<xs.length:=(ZtC.mp hx).1
  obtain⟨go,yl⟩:=itp.1 x hx
  have hdx:xs.drop i=x::xs.drop (i+1):=by
   rw[ZtS hlt]
   rw[Zt9 hlt] at hx;cases hx;rfl
  rw[hdx] at dn
  simp only[ZaP,Rr.assoc] at dn
  refine .inr ⟨go,fun ys' H'=>∃zs G F2,ys'.length=i+1/\Z7 H1 H'/\Trees K H' zs ys' G/\(∀a∈G,a ∉ R/\(H1 a=none\/∃j,a∈F1 j))/\(∀i,∀a∈F2 i,a∈F1 i)/\Ag K B H0 H' σ Γ1 ρ F2 (G++R) /\
   Dn ((ZaP (fun x=>fe (ρ++[x])) (xs.drop (i+1))).bind fun ys'=>.ok (.lst (zs++ys'))) (fun x=>∀v H',Z7 H H'->Res K B H0 H σ Γ1 ρ F R .F x v H'->Q v H') (fun e=>∀H',Z7 H0 H'->EX e H'),
   fun ys' H' ⟨zs,G,F2,a1,a2,a3,a4,a5,a6,a7⟩=>⟨xs.length-(i+1),by omega,zs,G,F2,rfl,hlt,a1,a2,a3,a4,a5,a6,a7⟩,fun v H3 y=>?_⟩
  obtain⟨s3,rx⟩:=yl v H3 y
  have A3:=(A2.grow s3).push (x:=x) (v:=v) (Rep.mono (fun a us s r=>⟨r,s.1.1,fun z=>by
   rcases ZtD.mp z with z|z
   ·rcases (o2 a z).2 with q|⟨j,q⟩
    ·exact s.2.1 q
    ·exact s.2.2 j q
   ·exact s.1.2.1 z,s.1.2.2⟩) (fun a us r=>r) rx)
  refine he B H0 H3 _ _ F2 (G++R) _ A3 (dn.bind.imp (fun z _ dn w H4 s4 r4=>?_) fun e q=>q)
  obtain⟨F4,f4,G4,t4,o4,A4⟩:=r4
  refine⟨zs++[z],G++G4,F4,by simp[hl],(s2.trans s3).trans s4,Trees.append ((tr.same s3).same s4) (Trees.one t4) (fun a ha z=>(o4 a z).1 (ZtF _ ha)),fun a ha=>?_,fun i a h=>f2 i a (f4 i a h),A4.pop.less fun a ha=>?_, ?_⟩
  ·rcases ZtD.mp ha with z|z
   ·exact o2 a z
   ·refine⟨fun q=>(o4 a z).1 (ZtB _ q), ?_⟩
    rcases (o4 a z).2 with q|⟨j,q⟩
    ·exact .inl ((s2.trans s3).free q)
    ·exact .inr ⟨j,f2 j a q⟩
  ·simp only[ZtD] at ha ⊢
   rcases ha with (z|z)|z
   ·exact .inr (.inl z)
   ·exact .inl z
   ·exact .inr (.inr z)
  ·simp only[Rr.assoc,Rr.bind_ok,ZtK,Zvk] at dn ⊢
   exact dn
end
inductive RS where
 |next (ρ:List PV)|ret (x:PV)|brk (ρ:List PV)|cont (ρ:List PV)|exc (e:PX)|bad
noncomputable def Rr.thenS {α:Type}:Rr α->(α->RS)->RS
 |.ok a,f=>f a
 |.exc e,_=>.exc e
 |.bad,_=>.bad
noncomputable def RS.seq:RS->(List PV->RS)->RS
 |.next ρ,f=>f ρ
 |r,_=>r
@[simp] theorem Rr.thenS_ok {α:Type}{a:α}{f:α->RS}:(Rr.ok a).thenS f=f a:=rfl
@[simp] theorem RS.seq_next {ρ:List PV}{f:List PV->RS}:(RS.next ρ).seq f=f ρ:=rfl
@[simp] theorem RS.seq_ret {x:PV}{f:List PV->RS}:(RS.ret x).seq f=.ret x:=rfl
@[simp] theorem RS.seq_exc {e:PX}{f:List PV->RS}:(RS.exc e).seq f=.exc e:=rfl
structure Tys where
 n:List Md
 b:List Md
 c:List Md
 r:Kd
def DnS (K:W.Frag) (B:Addr->Prop) (EX:PX->Hp->Prop) (Y:Tys) (H0 H:Hp) (F:Nat->List Addr) (D:ZgH) (r:RS):Prop:=match r with
 |.next ρ=>∀σ' H' F',Frm H F H' F'->Ag K B H0 H' σ' Y.n ρ F' []->D.nx σ' H'
 |.brk ρ=>∀σ' H' F',Frm H F H' F'->Ag K B H0 H' σ' Y.b ρ F' []->D.bk σ' H'
 |.cont ρ=>∀σ' H' F',Frm H F H' F'->Ag K B H0 H' σ' Y.c ρ F' []->D.ct σ' H'
 |.ret x=>∀v H',Z7 H0 H'->Zi6 K B H0 Y.r x v H'->D.rt v H'
 |.exc e=>∀H',Z7 H0 H'->EX e H'
 |.bad=>False
def DS (K:W.Frag) (EX:PX->Hp->Prop) (Γ:List Md) (Y:Tys) (t:TS) (g:List PV->RS):Prop:=
 ∀(B:Addr->Prop) (H0 H:Hp) (σ:St) (ρ:List PV) (F:Nat->List Addr) (D:ZgH),Ag K B H0 H σ Γ ρ F []->DnS K B EX Y H0 H F D (g ρ)->t D σ H
section
variable {K:W.Frag}{B:Addr->Prop}{EX:PX->Hp->Prop}{H0 H H':Hp}{σ:St}{Γ Γ' Γ1 Γ2 Γ3:List Md}{ρ:List PV}{F F':Nat->List Addr}{R:List Addr}{k:Kd}{x:PV}{v:V}{te:TE}{f fc:List PV->Rr PV}
 {t u:TS}{g g':List PV->RS}{Y:Tys}{D:ZgH}
theorem DnS.shift {H1:Hp}{F1:Nat->List Addr}{r:RS} (fr:Frm H F H1 F1) (h:DnS K B EX Y H0 H F D r):DnS K B EX Y H0 H1 F1 D r:=by
 cases r with
 |next ρ=>exact fun σ' H' F' fr' A=>h σ' H' F' (fr.trans fr') A
 |brk ρ=>exact fun σ' H' F' fr' A=>h σ' H' F' (fr.trans fr') A
 |cont ρ=>exact fun σ' H' F' fr' A=>h σ' H' F' (fr.trans fr') A
 |ret x=>exact h
 |exc e=>exact h
 |bad=>exact h
theorem DnS.thenS {α:Type}{r:Rr α}{f:α->RS} (h:DnS K B EX Y H0 H F D (r.thenS f)):Dn r (fun a=>DnS K B EX Y H0 H F D (f a)) (fun e=>∀H',Z7 H0 H'->EX e H'):=by
 cases r with
 |ok a=>exact h
 |exc e=>exact h
 |bad=>exact h
theorem ZB:DS K EX Γ ⟨Γ,Γ1,Γ2,k⟩ Zkp (fun ρ=>.next ρ):=fun B H0 H σ ρ F D A d=>d σ H F Frm.refl A
theorem Zm {Γm:List Md} (h1:DS K EX Γ ⟨Γm,Y.b,Y.c,Y.r⟩ t g) (h2:DS K EX Γm Y u g'):DS K EX Γ Y (Zm2 t u) (fun ρ=>(g ρ).seq g'):=fun B H0 H σ ρ F D A d=>by
 refine h1 B H0 H σ ρ F _ A ?_
 dsimp only at d
 cases e:g ρ with
 |next ρ1 =>
  rw[e] at d
  exact fun σ' H' F' fr A'=>h2 B H0 H' σ' ρ1 F' D A' (DnS.shift fr d)
 |brk ρ1=>rw[e] at d;exact d
 |cont ρ1=>rw[e] at d;exact d
 |ret x=>rw[e] at d;exact d
 |exc q=>rw[e] at d;exact d
 |bad=>rw[e] at d;exact d
noncomputable def mle (m m':Md):Bool:=m==m' || m'==.U || (m'==.S&&m != .U) || (m'==.O&&m==.P)
noncomputable def Ziq:List Md->List Md->Bool
 |[],[]=>true
 |m::ms,m'::ms'=>mle m m'&&Ziq ms ms'
 |_,_=>false
theorem Zdq:∀{Γ Γ':List Md},Ziq Γ Γ'=true->Γ.length=Γ'.length/\∀i,mle (Γ.getD i .U) (Γ'.getD i .U)=true
 |[],[],_=>⟨rfl,fun i=>by simp[mle]⟩
 |m::ms,m'::ms',h=>by
  simp only[Ziq,Bool.and_eq_true] at h
  obtain⟨h1,h2⟩:=Zdq h.2
  refine⟨by simp[h1],fun i=>?_⟩
  cases i with
  |zero=>simpa using h.1
  |succ i=>simpa using h2 i
 |[],_::_,h=>by cases h
 |_::_,[],h=>by cases h
theorem Ag.weak (A:Ag K B H0 H σ Γ ρ F R) (h:Ziq Γ Γ'=true):∃F',(∀i,∀a∈F' i,a∈F i)/\Ag K B H0 H σ Γ' ρ F' R:=by
 obtain⟨hl,hm⟩:=Zdq h
 let F':Nat->List Addr:=fun i=>if Γ.getD i .U=Γ'.getD i .U then F i else []
 have hF:∀i,∀a∈F' i,a∈F i:=fun i a ha=>by
  by_cases q:Γ.getD i .U=Γ'.getD i .U
  ·simp only[F',if_pos q] at ha;exact ha
  ·simp only[F',if_neg q] at ha;simp at ha
 have up:∀{a},NO B F R a->NO B F' R a:=fun {a} s=>⟨s.1,s.2.1,fun j z=>s.2.2 j (hF j a z)⟩
 refine⟨F',hF,A.same,A.own,fun i a ha=>A.young i a (hF i a ha),A.youngR,fun i a ha=>A.live i a (hF i a ha),A.liveR,fun i j hij a ha z=>A.disj i j hij a (hF i a ha) (hF j a z),fun i a ha=>A.disjR i a (hF i a ha),by rw[A.lenS,hl],by rw[A.lenR,hl],fun i=>?_⟩
 have sl:=A.slot i
 have hmi:=hm i
 by_cases q:Γ.getD i .U=Γ'.getD i .U
 ·simp only[F',if_pos q]
  rw[<- q]
  exact sl.mono (fun a vs s r=>⟨r,up s⟩) (fun a vs r=>r) fun a ha vs r=>r
 ·simp only[F',if_neg q]
  simp only[mle,Bool.or_eq_true,beq_iff_eq,Bool.and_eq_true,bne_iff_ne] at hmi
  rcases hmi with ((z|z)|z)|z
  ·exact absurd z q
  ·rw[z];exact rfl
  rotate_left
  ·rw[z.1]
   rw[z.2] at sl
   obtain⟨e,v,h1,h2,h3⟩:=sl
   exact⟨v,h1,h3.tree h2⟩
  ·rw[z.1]
   have own:∀a∈F i,NO B F' R a:=fun a ha=>⟨A.own a (A.young i a ha),A.disjR i a ha,fun j w=>by
    by_cases hj:j=i
    ·subst hj;simp only[F',if_neg q] at w;simp at w
    ·exact A.disj j i hj a (hF j a w) ha⟩
   cases hmm:Γ.getD i .U with
   |U=>exact absurd hmm z.2
   |P=>rw[hmm] at sl;obtain⟨e,v,h1,h2,h3⟩:=sl;exact⟨rfl,v,h1,h3.flatS h2⟩
   |S=>rw[hmm] at sl;obtain⟨e,v,h1,h2⟩:=sl;exact⟨rfl,v,h1,Rep.mono (fun a vs s r=>⟨r,up s⟩) (fun a vs r=>r) h2⟩
   |T =>
    rw[hmm] at sl
    obtain⟨a,vs,xs,h1,h2,h3,h4,h5⟩:=sl
    refine⟨rfl,_,h1, ?_⟩
    rw[h2]
    exact⟨a,vs,rfl,.inl ⟨.inl h3,own a (by rw[h5];simp)⟩,Reps.mono (fun a vs s r=>⟨r,up s⟩) (fun a vs r=>r) h4⟩
   |O=>rw[hmm] at sl;obtain⟨v,h1,h2⟩:=sl;exact⟨rfl,v,h1,h2.rep own⟩
theorem DS.out {Y':Tys} (h:DS K EX Γ Y t g) (hn:Ziq Y.n Y'.n=true) (hb:Ziq Y.b Y'.b=true) (hc:Ziq Y.c Y'.c=true) (hr:Y.r=Y'.r):DS K EX Γ Y' t g:=fun B H0 H σ ρ F D A d=>by
 refine h B H0 H σ ρ F D A ?_
 cases e:g ρ with
 |next ρ1=>rw[e] at d;exact fun σ' H' F' fr A'=>let ⟨F2,f2,A2⟩:=A'.weak hn;d σ' H' F2 (fr.trans (Frm.of (Z7.refl _) f2)) A2
 |brk ρ1=>rw[e] at d;exact fun σ' H' F' fr A'=>let ⟨F2,f2,A2⟩:=A'.weak hb;d σ' H' F2 (fr.trans (Frm.of (Z7.refl _) f2)) A2
 |cont ρ1=>rw[e] at d;exact fun σ' H' F' fr A'=>let ⟨F2,f2,A2⟩:=A'.weak hc;d σ' H' F2 (fr.trans (Frm.of (Z7.refl _) f2)) A2
 |ret x=>rw[e] at d;exact fun v H' s r=>d v H' s (hr▸r)
 |exc q=>rw[e] at d;exact d
 |bad=>rw[e] at d;exact d
theorem Zcp {H1:Hp}{F1:Nat->List Addr}{i:Nat}{G:List Addr} (s1:Z7 H H1) (f1:∀i,∀a∈F1 i,a∈F i) (o:∀a∈G,H a=none\/∃i,a∈F i):Frm H F H1 (Vo F1 i G):=fun a u h n=>by
 refine⟨s1 a u h,fun j z=>?_⟩
 by_cases q:j=i
 ·subst q
  rw[Zs] at z
  rcases o a z with w|⟨l,w⟩
  ·rw[h] at w;cases w
  ·exact n l w
 ·rw[Z4 q] at z;exact n j (f1 j a z)
theorem ZQ {i:Nat} (he:DE K EX Γ Γ' .P te f) (hi:i<Γ'.length):DS K EX Γ ⟨Γ'.set i .P,Γ1,Γ2,k⟩ (ZgO te (ZaB i)) (fun ρ=>(f ρ).thenS fun x=>.next (ρ.set i x)):=fun B H0 H σ ρ F D A d=>by
 refine he B H0 H σ ρ F [] _ A (d.thenS.imp (fun x _ d v H1 s1 r1=>?_) fun e q=>q)
 obtain⟨F1,f1,h1,h2,A1⟩:=r1
 exact d _ H1 _ (Zcp (G:=[]) s1 f1 (by simp)) (Ag.put (G:=[]) (R:=[]) A1 hi (by simp) ⟨rfl,v,rfl,h1,h2⟩)
theorem ZM {i:Nat} (he:DE K EX Γ Γ' .F te f) (hi:i<Γ'.length):DS K EX Γ ⟨Γ'.set i .O,Γ1,Γ2,k⟩ (ZgO te (ZaB i)) (fun ρ=>(f ρ).thenS fun x=>.next (ρ.set i x)):=fun B H0 H σ ρ F D A d=>by
 refine he B H0 H σ ρ F [] _ A (d.thenS.imp (fun x _ d v H1 s1 r1=>?_) fun e q=>q)
 obtain⟨F1,f1,G,h1,h2,A1⟩:=r1
 exact d _ H1 _ (Zcp s1 f1 fun a ha=>(h2 a ha).2) (Ag.put (R:=[]) A1 hi (by simp) ⟨v,rfl,h1⟩)
theorem Zj7 {i:Nat} (he:DE K EX Γ Γ' .Z te f) (hi:i<Γ'.length):DS K EX Γ ⟨Γ'.set i .S,Γ1,Γ2,k⟩ (ZgO te (ZaB i)) (fun ρ=>(f ρ).thenS fun x=>.next (ρ.set i x)):=fun B H0 H σ ρ F D A d=>by
 refine he B H0 H σ ρ F [] _ A (d.thenS.imp (fun x _ d v H1 s1 r1=>?_) fun e q=>q)
 obtain⟨F1,f1,h1,A1⟩:=r1
 refine d _ H1 _ (Zcp (G:=[]) s1 f1 (by simp)) (Ag.put (G:=[]) (R:=[]) A1 hi (by simp) ⟨rfl,v,rfl, ?_⟩)
 refine Rep.mono (fun a us s r=>⟨r,s.1,s.2.1,fun j z=>?_⟩) (fun a us r=>r) h1
 exact s.2.2 j (Vi j a z)
theorem Q6 (he:DE K EX Γ Γ' .A te f):DS K EX Γ ⟨Γ',Γ1,Γ2,k⟩ (ZdO te) (fun ρ=>(f ρ).thenS fun _=>.next ρ):=fun B H0 H σ ρ F D A d=>by
 refine he B H0 H σ ρ F [] _ A (d.thenS.imp (fun x _ d v H1 s1 r1=>?_) fun e q=>q)
 obtain⟨F1,f1,h1,A1⟩:=r1
 exact d σ H1 F1 (Frm.of s1 f1) A1
theorem ZH (he:DE K EX Γ Γ' .P te f):DS K EX Γ ⟨Γ3,Γ1,Γ2,.P⟩ (ZlC te) (fun ρ=>(f ρ).thenS fun x=>.ret x):=fun B H0 H σ ρ F D A d=>by
 refine he B H0 H σ ρ F [] _ A (d.thenS.imp (fun x _ d v H1 s1 r1=>?_) fun e q=>q)
 obtain⟨F1,f1,h1,h2,A1⟩:=r1
 exact d v H1 A1.same ⟨h1,h2⟩
theorem ZU (he:DE K EX Γ Γ' .F te f):DS K EX Γ ⟨Γ3,Γ1,Γ2,.F⟩ (ZlC te) (fun ρ=>(f ρ).thenS fun x=>.ret x):=fun B H0 H σ ρ F D A d=>by
 refine he B H0 H σ ρ F [] _ A (d.thenS.imp (fun x _ d v H1 s1 r1=>?_) fun e q=>q)
 obtain⟨F1,f1,G,h1,h2,A1⟩:=r1
 exact d v H1 A1.same ⟨G,h1,fun a ha=>A1.youngR a (by simpa using ha)⟩
theorem Jo {c:TT}{fc:List PV->Rr Bool} (hc:DT K EX Γ Γ' c fc) (h1:DS K EX Γ' Y t g) (h2:DS K EX Γ' Y u g'):DS K EX Γ Y (Zm4 c t u) (fun ρ=>(fc ρ).thenS fun b=>if b=true then g ρ else g' ρ):=fun B H0 H σ ρ F D A d=>by
 refine hc B H0 H σ ρ F [] _ A (d.thenS.imp (fun b _ d H1 F1 s1 f1 A1=>?_) fun e q=>q)
 cases b with
 |true=>exact h1 B H0 H1 σ ρ F1 D A1 (DnS.shift (Frm.of s1 f1) d)
 |false=>exact h2 B H0 H1 σ ρ F1 D A1 (DnS.shift (Frm.of s1 f1) d)
variable {ti:TE}{fi:List PV->Rr PV}
 {t u:TS}{g g':List PV->RS}{Y:Tys}{D:ZgH}
theorem ZgR {i:Nat}{m:Md} (h:Γ[i]?=some m):Γ.set i m=Γ:=by
 apply Zvh
 intro j
 by_cases q:i=j
 ·subst q;rw[ZtX (ZtC.mp h).1,h]
 ·rw[Zuj q]
theorem Ag.chgB {i:Nat}{m:Md}{a:Addr}{o':HO} (ho:Lvo o') {x':PV}{G G':List Addr} (A:Ag K B H0 H σ Γ ρ F (G++R)) (hm:Γ[i]?=some m) (ha:a∈F i) (hG:∀b∈G',b∈F i\/b∈G) (hGR:∀b∈G,b ∉ R)
  (hs:VM K (upd H a o') (NO B (Vo F i G') R) m x' σ[i]? G'):Ag K B H0 (upd H a o') σ Γ (ρ.set i x') (Vo F i G') R:=by
 obtain⟨us,hH⟩:=A.live i a ha
 have hi:=A.lt hm
 have liveU:∀b,(∃us:LvO,H b=some us.1)->∃us:LvO,upd H a o' b=some us.1:=fun b ⟨us,q⟩=>by
  by_cases e:b=a
  ·exact⟨⟨o',ho⟩,by rw[e,ZD]⟩
  ·exact⟨us,by rw[Z1 e];exact q⟩
 refine⟨A.same.upd (A.young i a ha),A.own,fun j b hb=>?_,fun b hb=>A.youngR b (ZtB _ hb),fun j b hb=>liveU b ?_,fun b hb=>liveU b (A.liveR b (ZtB _ hb)),fun j l hjl b hb z=>?_,fun j b hb z=>?_,A.lenS,by simp[A.lenR],fun j=>?_⟩
 ·by_cases q:j=i
  ·subst q;rw[Zs] at hb
   rcases hG b hb with z|z
   ·exact A.young j b z
   ·exact A.youngR b (ZtF _ z)
  ·rw[Z4 q] at hb;exact A.young j b hb
 ·by_cases q:j=i
  ·subst q;rw[Zs] at hb
   rcases hG b hb with z|z
   ·exact A.live j b z
   ·exact A.liveR b (ZtF _ z)
  ·rw[Z4 q] at hb;exact A.live j b hb
 ·by_cases q:j=i
  ·subst q
   rw[Zs] at hb
   rw[Z4 (Ne.symm hjl)] at z
   rcases hG b hb with w|w
   ·exact A.disj j l hjl b w z
   ·exact A.disjR l b z (ZtF _ w)
  ·rw[Z4 q] at hb
   by_cases q':l=i
   ·subst q'
    rw[Zs] at z
    rcases hG b z with w|w
    ·exact A.disj j l hjl b hb w
    ·exact A.disjR j b hb (ZtF _ w)
   ·rw[Z4 q'] at z;exact A.disj j l hjl b hb z
 ·by_cases q:j=i
  ·subst q;rw[Zs] at hb
   rcases hG b hb with w|w
   ·exact A.disjR j b w (ZtB _ z)
   ·exact hGR b w z
  ·rw[Z4 q] at hb;exact A.disjR j b hb (ZtB _ z)
 ·by_cases q:j=i
  ·subst q
   rw[Zs,Zt8,Zt8,hm,ZtX (by rw[A.lenR];exact hi)]
   exact hs
  ·rw[Z4 q,Zt8 (l:=ρ.set _ _),Zuj (Ne.symm q),<- Zt8]
   refine(A.slot j).mono (fun b us s r=>?_) (fun b us r=>Im.putL hH r) fun b hb us r=>?_
   ·have hne:b≠a:=fun z=>s.2.2 i (z▸ha)
    refine⟨?_,s.1,fun z=>s.2.1 (ZtB _ z),fun l z=>?_⟩
    ·rcases r with r|⟨o,r⟩
     ·exact .inl (by rw[Z1 hne];exact r)
     ·exact .inr ⟨o,by rw[Z1 hne];exact r⟩
    ·by_cases q':l=i
     ·subst q';rw[Zs] at z
      rcases hG b z with w|w
      ·exact s.2.2 l w
      ·exact s.2.1 (ZtF _ w)
     ·rw[Z4 q'] at z;exact s.2.2 l z
   ·have hne:b≠a:=fun z=>A.disj j i q b hb (z▸ha)
    rw[Z1 hne];exact r
theorem Ag.chg {i:Nat}{m:Md}{a:Addr}{vs':List V}{x':PV}{G G':List Addr} (A:Ag K B H0 H σ Γ ρ F (G++R)) (hm:Γ[i]?=some m) (ha:a∈F i) (hG:∀b∈G',b∈F i\/b∈G) (hGR:∀b∈G,b ∉ R)
  (hs:VM K (upd H a (.lst vs')) (NO B (Vo F i G') R) m x' σ[i]? G'):Ag K B H0 (upd H a (.lst vs')) σ Γ (ρ.set i x') (Vo F i G') R:=Ag.chgB (o':=.lst vs') trivial A hm ha hG hGR hs
theorem V3 {H1:Hp}{F1:Nat->List Addr}{i:Nat}{a:Addr}{o:HO}{G':List Addr} (s1:Z7 H H1) (f1:∀i,∀b∈F1 i,b∈F i) (ha:a∈F1 i) (hG:∀b∈G',H b=none\/∃j,b∈F j):Frm H F (upd H1 a o) (Vo F1 i G'):=fun b u h n=>by
 have hne:b≠a:=fun z=>n i (f1 i b (z▸ha))
 refine⟨by rw[Z1 hne];exact s1 b u h,fun j z=>?_⟩
 by_cases q:j=i
 ·subst q;rw[Zs] at z
  rcases hG b z with w|⟨l,w⟩
  ·rw[h] at w;cases w
  ·exact n l w
 ·rw[Z4 q] at z;exact n j (f1 j b z)
theorem Trees.setP:∀{xs:List PV}{vs:List V}{G:List Addr}{j:Nat}{y:PV}{w:V},Trees K H xs vs G->ZZ K H y w []->∃G',(∀a∈G',a∈G)/\Trees K H (xs.set j y) (vs.set j w) G'
 |[],_,_,_,_,_,h,_=>⟨[],by simp,by rw[h.1];exact⟨rfl,rfl⟩⟩
 |x::xs,_,_,0,y,w,h,h'=>by
  obtain⟨v,r,G1,G2,rfl,h1,h2,h3,rfl⟩:=h
  exact⟨G2,fun a ha=>by simp[ha],w,r,[],G2,rfl,h',h2,by simp,rfl⟩
 |x::xs,_,_,j+1,y,w,h,h'=>by
  obtain⟨v,r,G1,G2,rfl,h1,h2,h3,rfl⟩:=h
  obtain⟨G',h4,h5⟩:=Trees.setP (j:=j) h2 h'
  refine⟨G1++G',fun a ha=>?_,v,r.set j w,G1,G',rfl,h1,h5,fun a ha z=>h3 a ha (h4 a z),rfl⟩
  rcases ZtD.mp ha with z|z
  ·simp[z]
  ·simp[h4 a z]
noncomputable def pSet (x i y:PV):Rr PV:=match x,i with
 |.lst xs,.int j=>match ixN xs.length j with
  |some n=>.ok (.lst (xs.set n y))
  |none=>.bad
 |_,_=>.bad
theorem Dn.pSet {x i y:PV}{ok:PV->Prop}{ex:PX->Prop} (d:Dn (pSet x i y) ok ex):∃xs j n,x=.lst xs/\i=.int j/\ixN xs.length j=some n/\ok (.lst (xs.set n y)):=by
 unfold L2.pSet at d
 split at d
 ·rename_i xs j
  cases e:ixN xs.length j with
  |none=>rw[e] at d;exact d.elim
  |some n=>rw[e] at d;exact⟨xs,j,n,rfl,rfl,e,d⟩
 ·exact d.elim
theorem Vd {i:Nat} (hm:Γ2[i]?=some .O) (he:DE K EX Γ Γ2 .P te f) (hi:DE K EX Γ2 Γ2 .A ti fi) :
  DS K EX Γ ⟨Γ2,Γ1,Γ3,k⟩ (ZgO te (Zml (ZaW i) ti ZgY)) (fun ρ=>(f ρ).thenS fun y=>(fi ρ).thenS fun j=>(pSet (gv i ρ) j y).thenS fun z=>.next (ρ.set i z)):=fun B H0 H σ ρ F D A d=>by
 refine he B H0 H σ ρ F [] _ A (d.thenS.imp (fun y _ d w H1 s1 r1=>?_) fun e q=>q)
 obtain⟨F1,f1,y1,y2,A1⟩:=r1
 obtain⟨v,h1,h2⟩:=A1.getO hm
 refine⟨v,h1,hi B H0 H1 σ ρ F1 [] _ A1 (d.thenS.imp (fun j _ d jv H2 s2 r2=>?_) fun e q=>q)⟩
 obtain⟨F2,f2,p2,A2⟩:=r2
 obtain⟨xs,jj,n,e1,rfl,e2,d⟩:=Dn.pSet d.thenS
 obtain⟨v',h1',h2'⟩:=A2.getO hm
 rw[h1] at h1';cases h1'
 rw[show ρ.getD i .non=.lst xs from e1] at h2'
 obtain⟨a,vs,G,rfl,hH,ht,hn,hF⟩:=h2'
 cases p2
 refine⟨a,vs,jj,n,rfl,rfl,hH,by rw[ht.length];exact e2, ?_⟩
 obtain⟨G',g1,g2⟩:=Trees.setP (j:=n) ht ((y2.same s2).tree y1)
 have haF:a∈F2 i:=by rw[hF];simp
 have hsub:∀b∈a::G',b∈F2 i:=fun b hb=>by
  rw[hF]
  rcases ZtN.mp hb with rfl|hb
  ·simp
  ·simp[g1 b hb]
 refine d σ _ (Vo F2 i (a::G')) (V3 (s1.trans s2) (fun j b hb=>f1 j b (f2 j b hb)) haF fun b hb=>.inr ⟨i,f1 i b (f2 i b (hsub b hb))⟩) (Ag.chg (G:=[]) A2 hm haF (fun b hb=>.inl (hsub b hb)) (by simp) ?_)
 exact⟨_,h1,a,_,G',rfl,ZD,g2.put hH (fun z=>hn (g1 a z)),fun z=>hn (g1 a z),rfl⟩
noncomputable def pApp (x y:PV):Rr PV:=match x with
 |.lst xs=>if xs.length<1000000 then .ok (.lst (xs++[y])) else .bad
 |_=>.bad
theorem Dn.pApp {x y:PV}{ok:PV->Prop}{ex:PX->Prop} (d:Dn (pApp x y) ok ex):∃xs,x=.lst xs/\xs.length<1000000/\ok (.lst (xs++[y])):=by
 unfold L2.pApp at d
 split at d
 ·rename_i xs
  by_cases h:xs.length<1000000
  ·rw[if_pos h] at d;exact⟨xs,rfl,h,d⟩
  ·rw[if_neg h] at d;exact d.elim
 ·exact d.elim
theorem Dn.asL {x:PV}{ok:List PV->Prop}{ex:PX->Prop} (d:Dn (asL x) ok ex):∃xs,x=.lst xs/\ok xs:=by
 cases x with
 |lst xs=>exact⟨xs,rfl,d⟩
 |_=>exact d.elim
theorem ZaD {i:Nat} (hm:Γ[i]?=some .O) (hm2:Γ2[i]?=some .O) (he:DE K EX Γ Γ2 .F te f) :
  DS K EX Γ ⟨Γ2,Γ1,Γ3,k⟩ (ZdO (tBM K "list" Zas (ZaW i) (Qb te Zey))) (fun ρ=>(asL (gv i ρ)).thenS fun xs=>(f ρ).thenS fun y=>(pApp (.lst xs) y).thenS fun z=>.next (ρ.set i z)):=fun B H0 H σ ρ F D A d=>by
 obtain⟨v,h1,h2⟩:=A.getO hm
 refine⟨v,h1, ?_⟩
 obtain⟨xs,e1,d⟩:=Dn.asL d.thenS
 rw[show ρ.getD i .non=.lst xs from e1] at h2
 obtain⟨a,vs,G,rfl,hH,ht,hn,hF⟩:=h2
 refine⟨.inl ⟨rfl,_,SqL.of hH⟩,he B H0 H σ ρ F [] _ A (d.thenS.imp (fun y _ d w H2 s2 r2=>?_) fun e q=>q)⟩
 obtain⟨F2,f2,G2,y1,y2,A2⟩:=r2
 obtain⟨xs',e2,hlen,d⟩:=Dn.pApp d.thenS
 cases e2
 obtain⟨v',h1',h2'⟩:=A2.getO hm2
 rw[h1] at h1';cases h1'
 rw[show ρ.getD i .non=.lst xs from e1] at h2'
 obtain⟨a',vs',G',e,hH',ht',hn',hF'⟩:=h2'
 cases e
 refine⟨a,vs',w,rfl,rfl,hH',by rw[ht'.length];exact ZtM hlen (by decide), ?_⟩
 have haF:a∈F2 i:=by rw[hF'];simp
 have dj:∀b∈G',b ∉ G2:=fun b hb z=>A2.disjR i b (by rw[hF'];simp[hb]) (ZtF _ z)
 have na:a ∉ G2:=fun z=>A2.disjR i a haF (ZtF _ z)
 have hsub:∀b∈a::(G'++G2),b∈F2 i\/b∈G2:=fun b hb=>by
  rw[hF']
  rcases ZtN.mp hb with rfl|hb
  ·simp
  ·rcases ZtD.mp hb with z|z
   ·simp[z]
   ·exact .inr z
 have hna:a ∉ G'++G2:=fun z=>(ZtD.mp z).elim hn' na
 refine d σ _ (Vo F2 i (a::(G'++G2))) (V3 s2 f2 haF fun b hb=>?_) (Ag.chg (G:=G2) (R:=[]) A2 hm2 haF hsub (by simp) ?_)
 ·rcases hsub b hb with z|z
  ·exact .inr ⟨i,f2 i b z⟩
  ·exact(y2 b z).2
 ·exact⟨_,h1,a,_,G'++G2,rfl,ZD,(Trees.append ht' (Trees.one y1) dj).put hH' hna,hna,rfl⟩
def DG (K:W.Frag) (EX:PX->Hp->Prop) (Γ Γ':List Md) (g:TG) (h:PV->List PV->Rr (List PV)):Prop:=
 ∀(B:Addr->Prop) (H0 H:Hp) (σ:St) (ρ:List PV) (F:Nat->List Addr) (v:V) (x:PV) (N:St->Hp->Prop),Ag K B H0 H σ Γ ρ F []->Rep K H (NO B F []) x v ->
  Dn (h x ρ) (fun ρ'=>∀σ' F',(∀i,∀a∈F' i,a∈F i)->Ag K B H0 H σ' Γ' ρ' F' []->N σ' H) (fun e=>∀H',Z7 H0 H'->EX e H')->g v σ H N
theorem Zmp {i:Nat} (hi:i<Γ.length):DG K EX Γ (Γ.set i .S) (ZaB i) (fun x ρ=>.ok (ρ.set i x)):=fun B H0 H σ ρ F v x N A r d =>
 d _ (Vo F i []) Vi (Ag.put (G:=[]) (R:=[]) A hi (by simp) ⟨rfl,v,rfl,Rep.mono (fun a us s r=>⟨r,s.1,s.2.1,fun j z=>s.2.2 j (Vi j a z)⟩) (fun a us r=>r) r⟩)
theorem Zep {i:Nat} (hi:i<Γ.length):DG K EX Γ (Γ.set i .P) (ZaB i) (fun x ρ=>(grd x).bind fun x=>.ok (ρ.set i x)):=fun B H0 H σ ρ F v x N A r d=>by
 unfold grd at d;dsimp only at d
 by_cases h:x.flat=true
 ·rw[if_pos h] at d
  exact d _ (Vo F i []) Vi (Ag.put (G:=[]) (R:=[]) A hi (by simp) ⟨rfl,v,rfl,h,r.any⟩)
 ·rw[if_neg h] at d;exact d.elim
noncomputable def ZmI (xs ρ:List PV):Rr (List PV):=match xs with
 |[]=>.ok ρ
 |_=>.bad
noncomputable def hdR (h:PV->List PV->Rr (List PV)) (hs:List PV->List PV->Rr (List PV)) (xs:List PV) (ρ:List PV):Rr (List PV):=match xs with
 |x::r=>(h x ρ).bind fun ρ'=>hs r ρ'
 |[]=>.bad
noncomputable def asT (n:Nat) (x:PV):Rr (List PV):=match x with
 |.tup xs=>if xs.length=n then .ok xs else .bad
 |_=>.bad
theorem Dn.asT {n:Nat}{x:PV}{ok:List PV->Prop}{ex:PX->Prop} (d:Dn (asT n x) ok ex):∃xs,x=.tup xs/\xs.length=n/\ok xs:=by
 cases x with
 |tup xs =>
  unfold L2.asT at d
  by_cases h:xs.length=n
  ·simp only[if_pos h] at d;exact⟨xs,rfl,h,d⟩
  ·simp only[if_neg h] at d;exact d.elim
 |_=>exact d.elim
def DGF (K:W.Frag) (EX:PX->Hp->Prop) (Γ Γ':List Md) (g:TG) (h:PV->List PV->Rr (List PV)):Prop:=
 ∀(B:Addr->Prop) (H0 H:Hp) (σ:St) (ρ:List PV) (F:Nat->List Addr) (G R:List Addr) (v:V) (x:PV) (N:St->Hp->Prop),Ag K B H0 H σ Γ ρ F (G++R)->(∀a∈G,a ∉ R)->ZZ K H x v G ->
  Dn (h x ρ) (fun ρ'=>∀σ' F',(∀i,∀a∈F' i,a∈F i\/a∈G)->Ag K B H0 H σ' Γ' ρ' F' R->N σ' H) (fun e=>∀H',Z7 H0 H'->EX e H')->g v σ H N
def ZlN (K:W.Frag) (EX:PX->Hp->Prop) (Γ Γ':List Md) (g:TGs) (h:List PV->List PV->Rr (List PV)):Prop:=
 ∀(B:Addr->Prop) (H0 H:Hp) (σ:St) (ρ:List PV) (F:Nat->List Addr) (G R:List Addr) (vs:List V) (xs:List PV) (N:St->Hp->Prop),Ag K B H0 H σ Γ ρ F (G++R)->(∀a∈G,a ∉ R)->Trees K H xs vs G ->
  Dn (h xs ρ) (fun ρ'=>∀σ' F',(∀i,∀a∈F' i,a∈F i\/a∈G)->Ag K B H0 H σ' Γ' ρ' F' R->N σ' H) (fun e=>∀H',Z7 H0 H'->EX e H')->g vs σ H N
theorem Zlr {i:Nat} (hi:i<Γ.length):DGF K EX Γ (Γ.set i .P) (ZaB i) (fun x ρ=>(grd x).bind fun x=>.ok (ρ.set i x)):=fun B H0 H σ ρ F G R v x N A hG r d=>by
 unfold grd at d;dsimp only at d
 by_cases h:x.flat=true
 ·rw[if_pos h] at d
  exact d _ (Vo F i []) (fun j a ha=>.inl (Vi j a ha)) (Ag.put (G:=[]) (A.less fun a ha=>ZtB _ ha) hi (by simp) ⟨rfl,v,rfl,h,r.rep fun _ _=>trivial⟩)
 ·rw[if_neg h] at d;exact d.elim
theorem ZhD:ZlN K EX Γ Γ ZmL ZmI:=fun B H0 H σ ρ F G R vs xs N A hG r d=>by
 cases xs with
 |nil=>exact⟨r.1,d σ F (fun _ _ h=>.inl h) (A.less fun a ha=>ZtB _ ha)⟩
 |cons x xs=>exact d.elim
theorem Zb7 {g:TG}{gs:TGs}{h:PV->List PV->Rr (List PV)}{hs:List PV->List PV->Rr (List PV)} (h1:DGF K EX Γ Γ1 g h) (h2:ZlN K EX Γ1 Γ2 gs hs):ZlN K EX Γ Γ2 (Zle g gs) (hdR h hs):=fun B H0 H σ ρ F G R vs xs N A hG r d=>by
 cases xs with
 |nil=>exact d.elim
 |cons x xs =>
  obtain⟨v,r',G1,G2,rfl,r1,r2,dj,rfl⟩:=r
  refine⟨v,r',rfl,h1 B H0 H σ ρ F G1 (G2++R) v x _ (by rw[<- ZtK];exact A) (fun a ha z=>?_) r1 ((show Dn ((h x ρ).bind fun ρ'=>hs xs ρ') _ _ from d).bind.imp (fun ρ' _ d σ' F' f' A'=>?_) fun e q=>q)⟩
  ·rcases ZtD.mp z with z|z
   ·exact dj a ha z
   ·exact hG a (ZtF _ ha) z
  ·refine h2 B H0 H σ' ρ' F' G2 R r' xs _ A' (fun a ha=>hG a (ZtB _ ha)) r2 (d.imp (fun ρ2 _ d σ2 F2 f2 A2=>d σ2 F2 (fun j a ha=>?_) A2) fun e q=>q)
   rcases f2 j a ha with z|z
   ·rcases f' j a z with w|w
    ·exact .inl w
    ·exact .inr (ZtF _ w)
   ·exact .inr (ZtB _ z)
theorem ZjD {n:Nat}{gs:TGs}{hs:List PV->List PV->Rr (List PV)} (h2:ZlN K EX Γ Γ2 gs hs):DGF K EX Γ Γ2 (ZmK K n gs) (fun x ρ=>(asT n x).bind fun xs=>hs xs ρ):=fun B H0 H σ ρ F G R v x N A hG r d=>by
 obtain⟨xs,rfl,hl,d⟩:=Dn.asT d.bind
 obtain⟨a,vs,rfl,hn,hr⟩:=r
 exact⟨a,vs,rfl,hn.sqT,by rw[hr.length];exact hl,h2 B H0 H σ ρ F G R vs xs N A hG hr d⟩
theorem ZjA {gt:TG}{h:PV->List PV->Rr (List PV)} (he:DE K EX Γ Γ1 .F te f) (hg:DGF K EX Γ1 Γ2 gt h):DS K EX Γ ⟨Γ2,Γ3,Γ',k⟩ (ZgO te gt) (fun ρ=>(f ρ).thenS fun x=>(h x ρ).thenS fun ρ'=>.next ρ'):=fun B H0 H σ ρ F D A d=>by
 refine he B H0 H σ ρ F [] _ A (d.thenS.imp (fun x _ d v H1 s1 r1=>?_) fun e q=>q)
 obtain⟨F1,f1,G,h1,h2,A1⟩:=r1
 refine hg B H0 H1 σ ρ F1 G [] v x _ A1 (by simp) h1 (d.thenS.imp (fun ρ' _ d σ' F' f' A'=>d σ' H1 F' (fun a o ho n=>⟨s1 a o ho,fun j z=>?_⟩) A') fun e q=>q)
 rcases f' j a z with w|w
 ·exact n j (f1 j a w)
 ·rcases (h2 a w).2 with q|⟨l,q⟩
  ·rw[ho] at q;cases q
  ·exact n l q
end
noncomputable def RS.turn:RS->(List PV->RS)->RS
 |.next ρ,f=>f ρ
 |.cont ρ,f=>f ρ
 |.brk ρ,_=>.next ρ
 |r,_=>r
noncomputable def UV (b:PV->List PV->RS):List PV->List PV->RS
 |[],ρ=>.next ρ
 |x::xs,ρ=>(b x ρ).turn (UV b xs)
noncomputable def Vt (c:List PV->Rr Bool) (b:List PV->RS):Nat->List PV->Option RS
 |0,_=>none
 |n+1,ρ=>match c ρ with
  |.ok true=>match b ρ with
   |.next ρ'=>Vt c b n ρ'
   |.cont ρ'=>Vt c b n ρ'
   |.brk ρ'=>some (.next ρ')
   |r=>some r
  |.ok false=>some (.next ρ)
  |.exc e=>some (.exc e)
  |.bad=>some .bad
open Classical in
noncomputable def VT (c:List PV->Rr Bool) (b:List PV->RS) (ρ:List PV):RS:=if h:∃n r,Vt c b n ρ=some r then h.choose_spec.choose else .bad
theorem VB {c:List PV->Rr Bool}{b:List PV->RS}:∀{n m:Nat}{ρ:List PV}{r:RS},n<=m->Vt c b n ρ=some r->Vt c b m ρ=some r
 |0,_,_,_,_,h=>by cases h
 |n+1,0,_,_,hl,_=>by omega
 |n+1,m+1,ρ,r,hl,h=>by
  unfold Vt at h ⊢
  cases hc:c ρ with
  |ok b' =>
   cases b' with
   |true =>
    rw[hc] at h
    cases hb:b ρ with
    |next ρ'=>rw[hb] at h;exact VB (by omega) h
    |cont ρ'=>rw[hb] at h;exact VB (by omega) h
    |brk ρ'=>rw[hb] at h;exact h
    |ret x=>rw[hb] at h;exact h
    |exc e=>rw[hb] at h;exact h
    |bad=>rw[hb] at h;exact h
   |false=>rw[hc] at h;exact h
  |exc e=>rw[hc] at h;exact h
  |bad=>rw[hc] at h;exact h
theorem ZfD {c:List PV->Rr Bool}{b:List PV->RS}{n m:Nat}{ρ:List PV}{r r':RS} (h:Vt c b n ρ=some r) (h':Vt c b m ρ=some r'):r=r':=by
 rcases Nat.le_total n m with q|q
 ·have:=VB q h;rw[h'] at this;exact(Option.some.inj this).symm
 ·have:=VB q h';rw[h] at this;exact Option.some.inj this
theorem ZaS {c:List PV->Rr Bool}{b:List PV->RS}{n:Nat}{ρ:List PV}{r:RS} (h:Vt c b n ρ=some r):VT c b ρ=r:=by
 unfold VT
 have hx:∃n r,Vt c b n ρ=some r:=⟨n,r,h⟩
 rw[dif_pos hx]
 exact ZfD hx.choose_spec.choose_spec h
section
variable {K:W.Frag}{B:Addr->Prop}{EX:PX->Hp->Prop}{H0 H H':Hp}{σ:St}{Γ Γ1 Γ2 Γ3 Γl Γt:List Md}{ρ:List PV}{F F':Nat->List Addr}{k:Kd}{x:PV}{v:V}{te ti:TE}{f fc fe:List PV->Rr PV}
 {t u:TS}{g g':List PV->RS}{Y:Tys}{D:ZgH}
theorem J7 {wi:TI}{gt:TG}{fi:List PV->Rr (List PV)}{h:PV->List PV->Rr (List PV)} (hi:DI K EX Γ Γ1 wi fi) (hw:Ziq Γ1 Γl=true) (hg:DG K EX Γl Γt gt h) (hb:DS K EX Γt ⟨Γl,Γl,Γl,k⟩ t g) :
  DS K EX Γ ⟨Γl,Γ2,Γ3,k⟩ (Zm5 wi gt t) (fun ρ=>(fi ρ).thenS fun xs=>UV (fun x ρ=>(h x ρ).thenS g) xs ρ):=fun B H0 H σ ρ F D A d=>by
 refine hi B H0 H σ ρ F [] _ A (d.thenS.imp (fun xs _ d J H1 F1 s1 f1 A1 it=>?_) fun e q=>q)
 obtain⟨Fl,fl,Al⟩:=A1.weak hw
 have fr0:Frm H F H1 Fl:=Frm.of s1 fun j a ha=>f1 j a (fl j a ha)
 have fr1:Frm H1 F1 H1 Fl:=Frm.of (Z7.refl _) fl
 refine⟨fun i m σ' H'=>∃ρ' F',m=xs.length-i/\i<=xs.length/\Frm H1 F1 H' F'/\Ag K B H0 H' σ' Γl ρ' F' []/\DnS K B EX ⟨Γl,Γ2,Γ3,k⟩ H0 H' F' D (UV (fun x ρ=>(h x ρ).thenS g) (xs.drop i) ρ'),
  ⟨xs.length,ρ,Fl,by simp,Zub _,fr1,Al,by simpa using DnS.shift fr0 d⟩, ?_⟩
 rintro i m σ' H' ⟨ρ',F',rfl,hi',fr,A',dn⟩
 have itp:=it H' F' fr i
 cases hx:xs[i]? with
 |none =>
  refine .inl ⟨itp.2 hx, ?_⟩
  have hd:xs.drop i=[]:=Zu8 (Zux.mp hx)
  rw[hd] at dn
  exact dn σ' H' F' Frm.refl A'
 |some x =>
  have hlt:i<xs.length:=(ZtC.mp hx).1
  obtain⟨go,yl⟩:=itp.1 x hx
  have hdx:xs.drop i=x::xs.drop (i+1):=by
   rw[ZtS hlt]
   rw[Zt9 hlt] at hx;cases hx;rfl
  rw[hdx] at dn
  simp only[UV] at dn
  refine .inr ⟨go,fun σ2 H2=>∃ρ2 F2,Frm H1 F1 H2 F2/\Ag K B H0 H2 σ2 Γl ρ2 F2 []/\DnS K B EX ⟨Γl,Γ2,Γ3,k⟩ H0 H2 F2 D (UV (fun x ρ=>(h x ρ).thenS g) (xs.drop (i+1)) ρ2),
   fun σ2 H2 ⟨ρ2,F2,a1,a2,a3⟩=>⟨xs.length-(i+1),by omega,ρ2,F2,rfl,hlt,a1,a2,a3⟩,fun v H3 y=>?_⟩
  obtain⟨s3,rx⟩:=yl v H3 y
  have fr3:Frm H' F' H3 F':=Frm.of s3 fun _ _ h=>h
  refine hg B H0 H3 σ' ρ' F' v x _ (A'.grow s3) (Rep.mono (fun a us s r=>⟨r,s.1⟩) (fun a us r=>r) rx) ?_
  cases e:h x ρ' with
  |ok ρt =>
   rw[e] at dn
   refine fun σt Ft ft At=>hb B H0 H3 σt ρt Ft _ At ?_
   have frt:Frm H' F' H3 Ft:=Frm.of s3 ft
   simp only[Rr.thenS_ok] at dn
   cases e2:g ρt with
   |next ρ2=>rw[e2] at dn;exact fun σ2 H2 F2 fr2 A2=>⟨ρ2,F2,fr.trans (frt.trans fr2),A2,DnS.shift (frt.trans fr2) dn⟩
   |cont ρ2=>rw[e2] at dn;exact fun σ2 H2 F2 fr2 A2=>⟨ρ2,F2,fr.trans (frt.trans fr2),A2,DnS.shift (frt.trans fr2) dn⟩
   |brk ρ2=>rw[e2] at dn;exact fun σ2 H2 F2 fr2 A2=>dn σ2 H2 F2 (frt.trans fr2) A2
   |ret y=>rw[e2] at dn;exact dn
   |exc q=>rw[e2] at dn;exact dn
   |bad=>rw[e2] at dn;exact dn
  |exc q=>rw[e] at dn;exact dn
  |bad=>rw[e] at dn;exact dn
theorem Zd6 {c:TT}{fc:List PV->Rr Bool} (hc:DT K EX Γ Γ c fc) (hb:DS K EX Γ ⟨Γ,Γ,Γ,k⟩ t g):DS K EX Γ ⟨Γ,Γ2,Γ3,k⟩ (ZhT c t) (fun ρ=>VT fc g ρ):=fun B H0 H σ ρ F D A d=>by
 dsimp only at d
 have ex:∃n,Vt fc g n ρ=some (VT fc g ρ):=by
  by_cases hx:∃n r,Vt fc g n ρ=some r
  ·obtain⟨n,r,e⟩:=hx
   exact⟨n,by rw[ZaS e];exact e⟩
  ·unfold VT at d
   rw[dif_neg hx] at d
   exact d.elim
 obtain⟨n0,e0⟩:=ex
 generalize hr:VT fc g ρ=r at e0 d
 refine⟨fun m σ' H'=>∃ρ' F',Frm H F H' F'/\Ag K B H0 H' σ' Γ ρ' F' []/\Vt fc g m ρ'=some r,⟨n0,ρ,F,Frm.refl,A,e0⟩, ?_⟩
 rintro m σ' H' ⟨ρ',F',fr,A',e⟩
 cases m with
 |zero=>cases e
 |succ m =>
  unfold Vt at e
  refine hc B H0 H' σ' ρ' F' [] _ A' ?_
  cases e1:fc ρ' with
  |ok b =>
   rw[e1] at e
   refine fun H2 F2 s2 f2 A2=>?_
   have fr2:Frm H' F' H2 F2:=Frm.of s2 f2
   cases b with
   |true =>
    refine⟨fun σ3 H3=>∃ρ3 F3,Frm H F H3 F3/\Ag K B H0 H3 σ3 Γ ρ3 F3 []/\Vt fc g m ρ3=some r,fun σ3 H3 h=>⟨m,ZvA _,h⟩, ?_⟩
    refine hb B H0 H2 σ' ρ' F2 _ A2 ?_
    cases e2:g ρ' with
    |next ρ2=>rw[e2] at e;exact fun σ3 H3 F3 fr3 A3=>⟨ρ2,F3,fr.trans (fr2.trans fr3),A3,e⟩
    |cont ρ2=>rw[e2] at e;exact fun σ3 H3 F3 fr3 A3=>⟨ρ2,F3,fr.trans (fr2.trans fr3),A3,e⟩
    |brk ρ2 =>
     rw[e2] at e
     have e':RS.next ρ2=r:=Option.some.inj e
     rw[<- e'] at d
     exact fun σ3 H3 F3 fr3 A3=>d σ3 H3 F3 (fr.trans (fr2.trans fr3)) A3
    |ret y =>
     rw[e2] at e
     have e':RS.ret y=r:=Option.some.inj e
     rw[<- e'] at d
     exact d
    |exc q =>
     rw[e2] at e
     have e':RS.exc q=r:=Option.some.inj e
     rw[<- e'] at d
     exact d
    |bad =>
     rw[e2] at e
     have e':RS.bad=r:=Option.some.inj e
     rw[<- e'] at d
     exact d
   |false =>
    have e':RS.next ρ'=r:=Option.some.inj e
    rw[<- e'] at d
    exact d σ' H2 F2 (fr.trans fr2) A2
  |exc q =>
   rw[e1] at e
   have e':RS.exc q=r:=Option.some.inj e
   rw[<- e'] at d
   exact d
  |bad =>
   rw[e1] at e
   have e':RS.bad=r:=Option.some.inj e
   rw[<- e'] at d
   exact d
theorem Trees.get:∀{xs:List PV}{vs:List V}{G:List Addr}{j:Nat}{x:PV},Trees K H xs vs G->xs[j]?=some x->∃v G',vs[j]?=some v/\ZZ K H x v G'/\∀a∈G',a∈G
 |[],_,_,_,_,_,e=>by simp at e
 |y::xs,_,_,0,x,h,e=>by
  obtain⟨v,r,G1,G2,rfl,h1,h2,h3,rfl⟩:=h
  simp at e;subst e
  exact⟨v,G1,rfl,h1,fun a ha=>by simp[ha]⟩
 |y::xs,_,_,j+1,x,h,e=>by
  obtain⟨v,r,G1,G2,rfl,h1,h2,h3,rfl⟩:=h
  obtain⟨w,G',e1,e2,e3⟩:=Trees.get (j:=j) h2 (by simpa using e)
  exact⟨w,G',by simpa using e1,e2,fun a ha=>by simp[e3 a ha]⟩
theorem ZgK {xs:List PV}{vs:List V}{G:List Addr}{i:Int}{z:PV} (h:Trees K H xs vs G) (e:atI xs i=some z):∃u G',atI vs i=some u/\ZZ K H z u G'/\∀a∈G',a∈G:=by
 unfold atI at e ⊢
 rw[h.length]
 cases q:ixN xs.length i with
 |none=>rw[q] at e;cases e
 |some j=>rw[q] at e;exact h.get e
theorem ZhC {i:Nat}{h:Int->Int->Int} (hm:Γ2[i]?=some .O) (hmΓ:Γ[i]?=some .O) (hi:DE K EX Γ Γ2 .A ti f) (he:DE K EX Γ2 Γ2 .A te fe) :
  DS K EX Γ ⟨Γ2,Γ1,Γ3,k⟩ (Zkt (ZaW i) ti te (Zk2 K) (ipI h) ZgY) (fun ρ=>(f ρ).thenS fun j=>(pIx (gv i ρ) j).thenS fun z=>(asL (gv i ρ)).thenS fun _=>(fe ρ).thenS fun y=>(oI (fun _ _=>true) (fun a b=>.int (h a b)) z y).thenS fun w=>(pSet (gv i ρ) j w).thenS fun z=>.next (ρ.set i z)):=fun B H0 H σ ρ F D A d=>by
 obtain⟨v,h1,h2⟩:=A.getO hmΓ
 refine⟨v,h1,hi B H0 H σ ρ F [] _ A (d.thenS.imp (fun j _ d jv H1 s1 r1=>?_) fun e q=>q)⟩
 obtain⟨F1,f1,p1,A1⟩:=r1
 obtain⟨z,ez,d⟩:=Dn.pIx d.thenS
 obtain⟨xs,ex,d⟩:=Dn.asL d.thenS
 rw[ex] at ez
 obtain⟨v',h1',h2'⟩:=A1.getO hm
 rw[h1] at h1';cases h1'
 rw[show ρ.getD i .non=.lst xs from ex] at h2'
 obtain⟨a,vs,G,rfl,hH,ht,hn,hF⟩:=h2'
 obtain⟨j,rfl⟩:∃j',j=PV.int j':=by cases j<;>first|exact⟨_,rfl⟩|(simp only[pIx] at ez;cases ez;done)
 cases p1
 simp only[pIx] at ez
 cases e1:atI xs j with
 |none=>rw[e1] at ez;cases ez
 |some z' =>
  rw[e1] at ez;cases ez
  obtain⟨u,G2,e2,e3,e4⟩:=ZgK ht e1
  refine⟨a,vs,j,u,rfl,rfl,SqL.of hH,e2,he B H0 H1 σ ρ F1 [] _ A1 (d.thenS.imp (fun y _ d w H2 s2 r2=>?_) fun e q=>q)⟩
  obtain⟨F2,f2,p2,A2⟩:=r2
  obtain⟨zi,yi,rfl,rfl⟩:∃zi yi,z=PV.int zi/\y=PV.int yi:=by cases z<;>cases y<;>first|exact⟨_,_,rfl,rfl⟩|(exact d.elim;done)
  obtain⟨e5,_⟩:=e3
  subst e5
  cases p2
  refine⟨zi,yi,rfl,rfl, ?_⟩
  obtain⟨xs',jj,n,ex',e6,e7,d⟩:=Dn.pSet (show DnS _ _ _ _ _ _ _ _ ((pSet (gv i ρ) (.int j) (.int (h zi yi))).thenS _) from d).thenS
  cases e6
  rw[ex] at ex';cases ex'
  obtain⟨v',h1',h2'⟩:=A2.getO hm
  rw[h1] at h1';cases h1'
  rw[show ρ.getD i .non=.lst xs from ex] at h2'
  obtain⟨a',vs',G',e,hH',ht',hn',hF'⟩:=h2'
  cases e
  refine⟨a,vs',j,n,rfl,rfl,hH',by rw[ht'.length];exact e7, ?_⟩
  obtain⟨G'',g1,g2⟩:=Trees.setP (j:=n) (y:=.int (h zi yi)) (w:=.int (h zi yi)) ht' ⟨rfl,rfl⟩
  have haF:a∈F2 i:=by rw[hF'];simp
  have hsub:∀b∈a::G'',b∈F2 i:=fun b hb=>by
   rw[hF']
   rcases ZtN.mp hb with rfl|hb
   ·simp
   ·simp[g1 b hb]
  refine d σ _ (Vo F2 i (a::G'')) (V3 (s1.trans s2) (fun j b hb=>f1 j b (f2 j b hb)) haF fun b hb=>.inr ⟨i,f1 i b (f2 i b (hsub b hb))⟩) (Ag.chg (G:=[]) A2 hm haF (fun b hb=>.inl (hsub b hb)) (by simp) ?_)
  exact⟨_,h1,a,_,G'',rfl,ZD,g2.put hH' (fun z=>hn' (g1 a z)),fun z=>hn' (g1 a z),rfl⟩
end
noncomputable def RS.out:RS->Rr PV
 |.next _=>.ok .non
 |.ret x=>.ok x
 |.exc e=>.exc e
 |.brk _=>.bad
 |.cont _=>.bad
 |.bad=>.bad
@[simp] theorem RS.out_next {ρ:List PV}:(RS.next ρ).out=.ok .non:=rfl
@[simp] theorem RS.out_ret {x:PV}:(RS.ret x).out=.ok x:=rfl
@[simp] theorem RS.out_exc {e:PX}:(RS.exc e).out=.exc e:=rfl
def Ref (r r':Rr PV):Prop:=r=.bad\/r=r'
structure Pm where
 α:Type
 enc:α->List PV
 pre:α->Prop
 out:α->Rr PV
open Classical in
noncomputable def Pm.fn (m:Pm) (xs:List PV):Rr PV:=if h:∃a,m.enc a=xs/\m.pre a then m.out h.choose else .bad
theorem Pm.fn_eq (m:Pm) (a:m.α) (h:m.pre a) (inj:∀b,m.enc b=m.enc a->m.out b=m.out a):m.fn (m.enc a)=m.out a:=by
 unfold Pm.fn
 have hx:∃b,m.enc b=m.enc a/\m.pre b:=⟨a,rfl,h⟩
 rw[dif_pos hx]
 exact inj _ hx.choose_spec.1
theorem Pm.ref (m:Pm) {g:List PV->Rr PV} (h:∀a,m.pre a->g (m.enc a)=m.out a) (xs:List PV):Ref (m.fn xs) (g xs):=by
 unfold Pm.fn
 by_cases hx:∃a,m.enc a=xs/\m.pre a
 ·rw[dif_pos hx]
  have h2:=hx.choose_spec
  right
  have:=h _ h2.2
  rw[h2.1] at this
  exact this.symm
 ·rw[dif_neg hx];exact .inl rfl
section
variable {K:W.Frag}{B:Addr->Prop}{H:Hp}
theorem Ag.init {xs:List PV}{vs:List V}{n:Nat} (h:Reps K H B xs vs):Ag K (fun a=>B a\/H a=none) H H (vs.map some++List.replicate n none) (List.replicate xs.length .S++List.replicate n .U) (xs++List.replicate n .non) (fun _=>[]) []:=by
 refine⟨Z7.refl _,fun a h=>.inr h,by simp,by simp,by simp,by simp,by simp,by simp,by simp[h.length],by simp,fun i=>?_⟩
 by_cases hi:i<xs.length
 ·have e1:(List.replicate xs.length Md.S++List.replicate n Md.U).getD i .U=.S:=by
   rw[Zt8,ZtI (by simpa using hi),Zvo hi];rfl
  have e2:(xs++List.replicate n PV.non).getD i .non=xs[i]:=by
   rw[Zt8,ZtI hi,Zt9 hi];rfl
  rw[e1,e2]
  obtain⟨v,h1,h2⟩:=h.get (Zt9 hi)
  refine⟨rfl,v, ?_,Rep.mono (fun a us s r=>⟨r,.inl s,by simp,by simp⟩) (fun a us r=>r) h2⟩
  rw[ZtI (by rw[ZtG,h.length];exact hi),ZtT,h1];rfl
 ·have e1:(List.replicate xs.length Md.S++List.replicate n Md.U).getD i .U=.U:=by
   rw[Zt8,ZtJ (by simpa using hi)]
   by_cases q:i-(List.replicate xs.length Md.S).length<n
   ·rw[Zvo q];rfl
   ·rw[Zuk (by simpa using q)];rfl
  rw[e1]
  exact rfl
end
section
variable {P:Program}{w:World}{K:W.Frag}{mg:Str->Option Value}{base:Heap}
theorem Fun.okP {x qual:Str}{st:Stmt}{f:Addr}{fd:FuncData}{N ps:List Str}{k n l:Nat}{kd:Kd}{m:List PV->Rr PV} (F:Fun K x qual st f fd) (S:Zz N ps (Zh st)) (hn:ps.length=n) (hl:N.length-n=l)
  (hbody:∀(cdv:Value) (A:Around) (outer:List Env) (s:Shared) (H:Hp) (E:XK),UH k (A.deeper (envOfC qual (Zh st) s.heap.objs.size f cdv)) ->
   ∃t g Y,Y.r=kd/\PSs (ZbC CX0 P w K mg base N qual (Zh st) f cdv A outer s H E).nox (Zu st) t/\DS K X0 (List.replicate n .S++List.replicate l .U) Y t g/\∀xs,Ref (m xs) (g (xs++List.replicate l .non)).out) (hkN:kd≠.N:=by nofun) :
  JB P w K mg base CX0 (k+1) f fd ps (spF K n kd W0 m):=by
 refine F.ok S (fun vs H Q E h=>?_) (fun cdv A outer s H vs Q E hr h=>?_)
 ·obtain⟨B,xs,h1,h2,_⟩:=h
  rw[h1.length,h2,hn]
 ·obtain⟨B,xs,h1,h2,dn⟩:=h
  obtain⟨t,g,Y,hY,ht,hd,href⟩:=hbody cdv A outer s H E hr
  refine⟨t,ht, ?_⟩
  have A0:=Ag.init (n:=l) h1
  have est:VY N vs=vs.map some++List.replicate l none:=by
   unfold VY
   rw[h1.length,h2,hl]
  rw[est]
  rw[h2] at A0
  refine hd _ H H _ _ _ _ A0 ?_
  have hdn:Dn (g (xs++List.replicate l .non)).out (fun x=>∀v H',Z7 H H'->Zi6 K B H kd x v H'->Q v H') (fun e=>∀H',Z7 H H'->W0 e E H'):=by
   rcases href xs with e|e
   ·rw[e] at dn;exact dn.elim
   ·rw[<- e];exact dn
  have retK:∀{x v H'},Zi6 K (fun a=>B a\/H a=none) H kd x v H'->Zi6 K B H kd x v H':=fun {x v H'} h=>by
   cases kd with
   |P=>exact h
   |F=>exact h
   |T=>exact Rep.mono (fun a us s r=>⟨r,s.elim id .inr⟩) (fun a us r=>r) h
   |Z=>exact Rep.mono (fun a us s r=>⟨r,s.elim id .inr⟩) (fun a us r=>r) h
   |A=>exact Rep.mono (fun a us s r=>⟨r,s.elim id .inr⟩) (fun a us r=>r) h
   |N=>exact h
  cases e:g (xs++List.replicate l .non) with
  |next ρ =>
   rw[e] at hdn
   refine fun σ' H' F' fr A'=>hdn .non H' A'.same ?_
   cases kd with
   |P=>exact⟨rfl,rfl⟩
   |F=>exact⟨[],⟨rfl,rfl⟩,by simp⟩
   |T=>exact rfl
   |Z=>exact rfl
   |A=>exact rfl
   |N=>exact absurd rfl hkN
  |ret x=>rw[e] at hdn;exact fun v H' s r=>hdn v H' s (retK (hY▸r))
  |exc q=>rw[e] at hdn;exact fun H' s=>hdn H' s
  |brk ρ=>rw[e] at hdn;exact hdn.elim
  |cont ρ=>rw[e] at hdn;exact hdn.elim
  |bad=>rw[e] at hdn;exact hdn.elim
end
section
variable {K:W.Frag}{n:Nat}{m:List PV->Rr PV}{e:Expr}{ta:TA}{Γ Γ':List Md}{fa:List PV->Rr (List PV)}
theorem Zer (hn:Len fa n) (ha:DAA K X0 Γ Γ' ta fa):DE K X0 Γ Γ' .F (Qc (spF K n .F W0 m) ta) (fun ρ=>(fa ρ).bind m):=ZdA (E:=E0) (W:=W0) (fun σ H Q h=>h) (fun e H' h=>h) hn ha
theorem Zah (hn:Len fa n) (ha:DAA K X0 Γ Γ' ta fa):DE K X0 Γ Γ' .P (Qc (spF K n .P W0 m) ta) (fun ρ=>(fa ρ).bind m):=Zd9 (E:=E0) (W:=W0) (fun σ H Q h=>h) (fun e H' h=>h) hn ha
end
theorem Zee {K:W.Frag}{H:Hp}{a:Addr}{ns:List Int}{m:List PV->Rr PV} (hm:m [.lst (ns.map PV.int)]=.ok (.bl true)) (hS:SqL K H a (ns.map V.int)):spF K 1 .P W0 m [.ref a] H (fun v _=>v=.bl true) fun _ _ _=>False:=by
 refine⟨fun _=>True,[.lst (ns.map PV.int)],Reps.one ⟨a,_,rfl,hS.elim (fun h=>.inl ⟨h,trivial⟩) .inr,Zby ns⟩,rfl, ?_⟩
 rw[hm]
 exact fun v H' _ r=>r.2
section
variable {X:Cx}{K:W.Frag}{EX:PX->Hp->Prop}{Γ Γ' Γ1 Γ2:List Md}{k:Kd}{te tb tc:TE}{ta:TA}{f fb fc:List PV->Rr PV}{fa:List PV->Rr (List PV)}
theorem Zet (hc:X.calm=true) (e:X.K=K:=by rfl):JX X (.builtin "min") (Zk1 K):=by subst e;exact Zgq hc
theorem Zl4:bootBuiltins "max"=some (.builtin "max"):=by decide +kernel
theorem Zac {i:Nat}{wi:TI} (he:DE K EX Γ Γ' .F (ZgN wi te) f) (hi:i<Γ'.length):DS K EX Γ ⟨Γ'.set i .O,Γ1,Γ2,k⟩ (ZcO i wi te) (fun ρ=>(f ρ).thenS fun x=>.next (ρ.set i x)):=ZM he hi
noncomputable def Zhk (xs:List PV):Rr PV:=match xs with
 |[.int i,.int j]=>.ok (.int (if j>i then j else i))
 |_=>.bad
theorem ZjG (ha:DAA K EX Γ Γ' ta fa):DE K EX Γ Γ' .P (tCB (fun xs H Q=>∃i j,xs=[.int i,.int j]/\Q (.int (if j>i then j else i)) H) ta) (fun ρ=>(fa ρ).bind Zhk):=by
 refine Zeq (fun {H xs vs Q} h z e=>?_) (fun xs e h=>?_) ha
 ·unfold Zhk at e
  split at e<;>first|(cases e;done)|skip
  cases e
  obtain⟨v,w,rfl,h1,h2⟩:=Zk0 h
  cases h1;cases h2
  exact⟨rfl,fun q=>⟨_,_,rfl,q _ rfl⟩⟩
 ·unfold Zhk at h;split at h<;>cases h
theorem Zjl (hu:X.A.units+64<cLine) (e:X.K=K:=by rfl):OpR X (compareOp .Lt) (ZiX K HT.ZL):=by subst e;exact ZkJ (by omega)
noncomputable def ZjX (x y:PV):Rr PV:=match x,y with
 |.lst xs,.lst ys=>match VJ xs,VJ ys with
  |some ns,some ms=>.ok (.bl (HT.ZL ns ms))
  |_,_=>.bad
 |_,_=>.bad
theorem Zlv (ha:DE K EX Γ Γ1 .A tb fb) (hb:DE K EX Γ1 Γ2 .A tc fc):DE K EX Γ Γ2 .P (tOp (ZiX K HT.ZL) tb tc) (fun ρ=>(fb ρ).bind fun x=>(fc ρ).bind fun y=>ZjX x y):=by
 refine ZfZ (fun {H x y v w Q} rx ry ⟨z,e,q⟩=>?_) (fun x y z h=>?_) (fun x y e h=>?_) ha hb
 ·unfold ZjX at e
  split at e
  ·split at e
   ·rename_i ns ms h1 h2
    cases e
    rw[Uj h1] at rx
    rw[Uj h2] at ry
    obtain⟨a,rfl,h3⟩:=UQ rx
    obtain⟨b,rfl,h4⟩:=UQ ry
    exact⟨a,b,ns,ms,rfl,rfl,h3,h4,q rfl _ rfl⟩
   ·cases e
  ·cases e
 ·unfold ZjX at h
  split at h
  ·split at h
   ·cases h;rfl
   ·cases h
  ·cases h
 ·unfold ZjX at h
  split at h
  ·split at h<;>cases h
  ·cases h
end
def RS.good (r:RS) (I:List PV->Prop):Prop:=match r with
 |.next ρ=>I ρ
 |.cont ρ=>I ρ
 |_=>False
theorem RS.good_ex {r:RS}{I:List PV->Prop} (h:r.good I):∃ρ',(r=.next ρ'\/r=.cont ρ')/\I ρ':=by
 cases r with
 |next ρ=>exact⟨ρ,.inl rfl,h⟩
 |cont ρ=>exact⟨ρ,.inr rfl,h⟩
 |ret x=>exact h.elim
 |brk ρ=>exact h.elim
 |exc e=>exact h.elim
 |bad=>exact h.elim
theorem Zd3 {b:PV->List PV->RS}{xs:List PV}{ρ:List PV} (I:Nat->List PV->Prop) (h0:I 0 ρ) (h:∀i x ρ,xs[i]?=some x->I i ρ->(b x ρ).good (I (i+1))) :
  ∃ρ',UV b xs ρ=.next ρ'/\I xs.length ρ':=by
 have key:∀n i ρ,xs.length=i+n->I i ρ->∃ρ',UV b (xs.drop i) ρ=.next ρ'/\I xs.length ρ':=by
  intro n
  induction n with
  |zero =>
   intro i ρ hl hI
   rw[Zu8 (by omega)]
   exact⟨ρ,rfl,by rw[hl];exact hI⟩
  |succ n ih =>
   intro i ρ hl hI
   have hi:i<xs.length:=by omega
   rw[ZtS hi]
   obtain⟨ρ',h1,h2⟩:=RS.good_ex (h i _ ρ (Zt9 hi) hI)
   obtain⟨ρ2,h3,h4⟩:=ih (i+1) ρ' (by omega) h2
   refine⟨ρ2, ?_,h4⟩
   simp only[UV]
   rcases h1 with h1|h1<;>(rw[h1];exact h3)
 exact key xs.length 0 ρ (by omega) h0
theorem J9 {lo:Int}{n i:Nat}{x:PV} (h:(ZbN lo n)[i]?=some x):i<n/\x=.int (lo+i):=by
 unfold ZbN at h
 rw[ZtT] at h
 by_cases hi:i<n
 ·rw[Zvv hi] at h;cases h;exact⟨hi,rfl⟩
 ·rw[Zuk (by simpa using hi)] at h;cases h
@[simp] theorem Jp {lo:Int}{n:Nat}:(ZbN lo n).length=n:=by simp[ZbN]
theorem Za3 {α β:Type}{f:α->Rr β}{g:α->β}:∀{xs:List α},(∀x∈xs,f x=.ok (g x))->ZaP f xs=.ok (xs.map g)
 |[],_=>rfl
 |x::xs,h=>by
  simp only[ZaP,h x (by simp),Rr.bind_ok,Za3 (xs:=xs) fun y hy=>h y (by simp[hy]),ZtP]
@[simp] theorem ZfH {x:PV}{ρ:List PV}:gv 0 (x::ρ)=x:=rfl
@[simp] theorem ZfI {x:PV}{ρ:List PV}{i:Nat}:gv (i+1) (x::ρ)=gv i ρ:=rfl
theorem UR {ns:List Int}{k:Int} (h0:0<=k) (h1:k<ns.length):pIx (.lst (ns.map PV.int)) (.int k)=.ok (.int (ns.getD k.toNat 0)):=by
 have:atI (ns.map PV.int) k=some (.int (ns.getD k.toNat 0)):=by
  unfold atI
  rw[ZtG,Zdx h0 h1]
  show (ns.map PV.int)[k.toNat]?=_
  rw[ZtT,Zt9 (by omega),Zt8,Zt9 (by omega)]
  rfl
 simp only[pIx,this]
theorem Qo {ns:List Int}{k y:Int} (h0:0<=k) (h1:k<ns.length):pSet (.lst (ns.map PV.int)) (.int k) (.int y)=.ok (.lst ((ns.set k.toNat y).map PV.int)):=by
 simp only[pSet,ZtG,Zdx h0 h1,List.map_set]
theorem Zbo {ns:List Int}{y:Int} (h:ns.length<1000000):pApp (.lst (ns.map PV.int)) (.int y)=.ok (.lst ((ns++[y]).map PV.int)):=by
 simp only[pApp,ZtG,if_pos h,Zuy,ZtP,ZuY]
theorem Qv {ns:List Int} (h:ns.length<=1000000):newF (ns.map PV.int)=.ok (.lst (ns.map PV.int)):=by
 unfold newF
 rw[PV.flats_ints,ZtG,decide_eq_true h];rfl
theorem Uq (ns:List Int):PV.dats (ns.map PV.int)=ns.map PyData.int:=by
 induction ns with
 |nil=>rfl
 |cons n ns ih=>simp[PV.dats,PV.dat,ih]
theorem Zc3 (ns:List Int):PyData.canLayAll0 (ns.map PyData.int)=true:=by
 induction ns with
 |nil=>rfl
 |cons n ns ih=>simp[PyData.canLayAll0,PyData.canLay0,ih]
theorem Zfx (i:Int):okD (.int i)=true:=by simp[okD,PV.noX,PV.dat,PyData.canLay0,PyData.depth]
theorem Zdk (ns:List Int):okD (.lst (ns.map PV.int))=true:=by
 have hd:PyData.depthAll (ns.map PyData.int)=0:=by
  induction ns with
  |nil=>rfl
  |cons n ns ih=>simp[PyData.depthAll,PyData.depth,ih]
 simp[okD,PV.noX,PV.noXs_ints,PV.dat,Uq,PyData.canLay0,Zc3,PyData.depth,hd]
theorem Vk:∀(ns ms:List Int),PyData.eqvAll (ns.map PyData.int) (ms.map PyData.int)=decide (ns=ms)
 |[],[]=>by simp[PyData.eqvAll]
 |[],m::ms=>by simp[PyData.eqvAll]
 |n::ns,[]=>by simp[PyData.eqvAll]
 |n::ns,m::ms=>by
  simp only[ZtP,PyData.eqvAll,PyData.eqv,Vk ns ms,List.cons.injEq,Bool.decide_and]
  rw[Bool.beq_eq_decide_eq]
theorem Zax {g:Bool->Bool} (ns ms:List Int):US g (.lst (ns.map PV.int)) (.lst (ms.map PV.int))=.ok (.bl (g (decide (ns=ms)))):=by
 unfold US
 rw[Zdk,Zdk]
 simp only[Bool.and_self,if_true,PV.dat,Uq,PyData.eqv,Vk]
theorem Zfl {g:Bool->Bool} (i j:Int):US g (.int i) (.int j)=.ok (.bl (g (decide (i=j)))):=by
 unfold US
 rw[Zfx,Zfx]
 simp only[Bool.and_self,if_true,PV.dat,PyData.eqv]
 rw[Bool.beq_eq_decide_eq]
theorem Zbm (ns:List Int):ZgB [.lst (ns.map PV.int)]=.ok (.int ns.length):=by simp[ZgB]
theorem Zbj (ns:List Int):ZlY [.lst (ns.map PV.int)]=.ok (.int ns.sum):=by simp[ZlY,Zbn]
theorem Zfg {ns:List Int} (h:ns≠[]):Zma [.lst (ns.map PV.int)]=.ok (.int (ZgC ns)):=by simp[Zma,Zbn,h]
theorem QS {ns:List Int} (h:ns.length<=1000000):ZdV [.lst (ns.map PV.int)]=.ok (.lst (ns.map PV.int)):=by
 simp only[ZdV];exact Qv h
theorem ZjK {i j:Int} (a b:Nat) (h1:i.natAbs<=10^a) (h2:j.natAbs<=10^b) (ha:a<=4000:=by decide) (hb:b<=4000:=by decide):ZcD i j:=by
 have t:∀c:Nat,c<=4000->(10:Nat)^c<2^60000:=fun c hc=>ZuD (Zvr (by decide) hc) (by decide +kernel)
 exact⟨ZuD h1 (t a ha),ZuD h2 (t b hb)⟩
theorem Zgm {i j:Int} (b:Nat) (h1:0<j) (h2:j.natAbs<=10^b) (hb:b<=2000:=by decide):ZcE i j:=by
 have t:∀c:Nat,c<=2000->(10:Nat)^c<2^9000:=fun c hc=>ZuD (Zvr (by decide) hc) (by decide +kernel)
 exact⟨h1,ZuD h2 (t b hb)⟩
theorem Zfn {i j:Int} (h:ZcE i j):Zmc (.int i) (.int j)=.ok (.int (i/j)):=Zbq (decide_eq_true h)
theorem Zff {i j:Int} (h:ZcD i j):ZlZ (.int i) (.int j)=.ok (.int (i*j)):=Zbq (decide_eq_true h)
theorem Qp {i j:Int} (h:0<j):ZmE (.int i) (.int j)=.ok (.int (i%j)):=Zbq (decide_eq_true h)
theorem Zce {i j:Int} (h:Zke i j):ZkA (.int i) (.int j)=.ok (.int (i^j.toNat)):=Zbq (decide_eq_true h)
@[simp] theorem Zfs {i j:Int}:Zmd (.int i) (.int j)=.ok (.int (i+j)):=rfl
@[simp] theorem Zfc {i j:Int}:ZmC (.int i) (.int j)=.ok (.int (i-j)):=rfl
@[simp] theorem Zie {i j:Int}:pLt (.int i) (.int j)=.ok (.bl (decide (i<j))):=rfl
@[simp] theorem Zif {i j:Int}:pLe (.int i) (.int j)=.ok (.bl (decide (i<=j))):=rfl
@[simp] theorem Zil {i j:Int}:pGt (.int i) (.int j)=.ok (.bl (decide (j<i))):=rfl
@[simp] theorem Zim {i j:Int}:pGe (.int i) (.int j)=.ok (.bl (decide (j<=i))):=rfl
@[simp] theorem ZfK {i:Int}:grd (.int i)=.ok (.int i):=rfl
@[simp] theorem ZfJ {i:Str}:grd (.str i)=.ok (.str i):=rfl
@[simp] theorem Zi5 {b:Bool}:asB (.bl b)=.ok b:=rfl
@[simp] theorem Zg3 {xs:List PV}:asL (.lst xs)=.ok xs:=rfl
@[simp] theorem Zg4 {i:Int}:asI (.int i)=.ok i:=rfl
@[simp] theorem Zik {n:String}{x:Int}:ZkD n (.int x)=.ok (.bl (Q0 (Vn (.int x)) n)):=rfl
@[simp] theorem Zij {n:String}{x:List PV}:ZkD n (.lst x)=.ok (.bl (Q0 (Vn (.lst x)) n)):=rfl
@[simp] theorem Zii {n:String}{x:List PV}:ZkD n (.tup x)=.ok (.bl (Q0 (Vn (.tup x)) n)):=rfl
@[simp] theorem Zih {x:PV}{xs:List PV}:pIx (.tup (x::xs)) (.int 0)=.ok x:=by simp[pIx,atI,ixN]
@[simp] theorem Zig {x y:PV}{xs:List PV}:pIx (.tup (x::y::xs)) (.int 1)=.ok y:=by
 have:atI (x::y::xs) 1=some y:=by unfold atI;rw[Zdx (by omega) (by simp only[Zua];omega)];rfl
 simp only[pIx,this]
theorem Zdf {j:Int} (h:-(2^62)<=j/\j<2^62):Zhi [.int j]=.ok (ZbN 0 j.toNat):=by simp only[Zhi,okR,decide_eq_true h,if_true]
theorem Zhg {i j:Int} (h:-(2^62)<=i/\i<2^62) (h':-(2^62)<=j/\j<2^62):Zhh [.int i,.int j]=.ok (ZbN i (j-i).toNat):=by simp only[Zhh,okR,decide_eq_true h,decide_eq_true h',Bool.and_self,if_true]
theorem Zf6 {xs:List PV} (h:xs.length<=1000000):lenM xs=.ok ():=by simp only[lenM,if_pos h]
@[simp] theorem Zd0:Q0 (Vn (.int i)) "int"=true:=rfl
@[simp] theorem Zd1:Q0 (Vn (.int i)) "bool"=false:=rfl
@[simp] theorem Zdz:Q0 (Vn (.lst xs)) "list"=true:=rfl
@[simp] theorem Zdy:Q0 (Vn (.tup xs)) "tuple"=true:=rfl
theorem JG {I:List PV->Prop}{ρ:List PV} (h:I ρ):(RS.next ρ).good I:=h
theorem Zd2 {h:PV->List PV->Rr (List PV)}{hs:List PV->List PV->Rr (List PV)}{x:PV}{xs ρ:List PV}:hdR h hs (x::xs) ρ=(h x ρ).bind fun ρ'=>hs xs ρ':=rfl
theorem Zdp {ρ:List PV}:ZmI [] ρ=.ok ρ:=rfl
theorem Jn {ns ms:List Int} (e:ns.map PV.int=ms.map PV.int):ns=ms:=by
 have:=congrArg VJ e
 simpa using this
theorem QU {i j:Int} (h0:0<j) (h1:j<1000000000000):Zmc (.int i) (.int j)=.ok (.int (i/j)):=Zfn (Zgm 12 h0 (by omega))
theorem ZkH:ZkA (.int 10) (.int 60)=.ok (.int (10^60)):=by rw[Zce (by decide)];rfl
theorem Zir {xs:List PV} (h:xs.length<=1000):mkT xs=.ok (.tup xs):=if_pos h
theorem Zis {xs:List PV} (h:xs.length<=1000):mkL xs=.ok (.lst xs):=if_pos h
noncomputable def KD {α:Type}:Sem α->Prop
 |.pure _=>True
 |.raise _=>True
 |.unsupported _=>True
 |.finish _=>True
 |.rule _ k=>KD (k ())
 |.at _ k=>KD (k ())
 |.load _ _ k=>∀o,KD (k o)
 |.update _ _ f k=>(∀o:Obj,(f o).dict=o.dict/\(o.isFreed=false->(f o).isFreed=false))/\KD (k ())
 |.alloc _ k=>∀a,KD (k a)
 |.loadIfAlive _ k=>∀o,KD (k o)
 |.point _ k=>KD (k ())
 |.register _ _=>True
 |.fresh k=>∀t,KD (k t)
 |.ask k=>∀x,KD (k x)
 |.choose _ _ k=>∀n,KD (k n)
 |.os _ _ k=>∀r,KD (k r)
 |.call _ _ _ _ _=>False
 |.handled _ k=>∀x,KD (k x)
 |.newGen _ k=>∀g,KD (k g)
 |.genState _ k=>∀x,KD (k x)
 |.resume _ _ _ _=>False
 |.yield _ _ _ _=>True
 |.stack k=>∀x,KD (k x)
 |.fork _ _=>True
 |.thread k=>∀x,KD (k x)
 |.await _ _ _ _ _=>True
def DK (h h':Heap):Prop:=∀b o,h.get? b=some o->∃o',h'.get? b=some o'/\o'.dict=o.dict
theorem DK.refl (h:Heap):DK h h:=fun b o e=>⟨o,e,rfl⟩
theorem DK.trans {h1 h2 h3:Heap} (a:DK h1 h2) (b:DK h2 h3):DK h1 h3:=fun x o e=>by
 obtain⟨o1,e1,d1⟩:=a x o e
 obtain⟨o2,e2,d2⟩:=b x o1 e1
 exact⟨o2,e2,d2.trans d1⟩
theorem Zmj {M:Model}{Γ:PySem.Ctx}{α:Type}{Q:α->Pos->Shared->Prop}{E:Value->Pos->Shared->Prop}{h0:Heap}:∀(t:Sem α) (p:Pos) (s:Shared),KD t->DK h0 s.heap->Sem.wp M Γ t Q E p s ->
  Sem.wp M Γ t (fun a p' s'=>Q a p' s'/\DK h0 s'.heap) (fun e p' s'=>E e p' s'/\DK h0 s'.heap) p s:=by
 intro t
 induction t with
 |pure a=>intro p s _ d h;exact⟨h,d⟩
 |raise e=>intro p s _ d h;exact⟨h,d⟩
 |unsupported w=>intro p s _ _ h;exact h
 |finish e=>intro p s _ _ h;exact h
 |rule t k ih=>intro p s k d h;exact ih () p s k d h
 |«at» q k ih=>intro p s k d h;exact ih () q s k d h
 |load a q k ih=>intro p s k d h;obtain⟨o,e,h⟩:=h;exact⟨o,e,ih o p s (k o) d h⟩
 |update a q f k ih =>
  intro p s k d h
  refine⟨h.1,ih () p _ k.2 (d.trans fun b o e=>?_) h.2⟩
  by_cases hb:a=b
  ·subst hb
   exact⟨_,Heap.get?_update_self f e ((k.1 o).2 (Heap.get?_some_iff.mp e).2),(k.1 o).1⟩
  ·exact⟨o,(Heap.get?_update_other _ f hb).trans e,rfl⟩
 |alloc o k ih=>intro p s k d h;exact ih _ p _ (k _) (d.trans fun b o' e=>⟨o',Heap.get?_push_of_some _ e,rfl⟩) h
 |loadIfAlive a k ih=>intro p s k d h;exact ih _ p s (k _) d h
 |point l k ih=>intro p s k d h;exact ih () p s k d h
 |register a k ih=>intro p s _ _ h;exact h
 |fresh k ih=>intro p s k d h;exact ih _ p _ (k _) d h
 |ask k ih=>intro p s k d h;exact ih _ p _ (k _) d h
 |choose a n k ih=>intro p s k d h;exact⟨h.1,ih _ p _ (k _) d h.2⟩
 |os q l k ih=>intro p s k d h;exact ih _ p _ (k _) d h
 |call c h g l k ih=>intro p s k d h;exact k.elim
 |handled o k ih=>intro p s k d h;exact ih _ p _ (k _) d h
 |newGen c k ih=>intro p s k d h;exact ih _ p _ (k _) d h
 |genState g k ih=>intro p s k d h;obtain⟨st,e,h⟩:=h;exact⟨st,e,ih _ p s (k _) d h⟩
 |resume g r l k ih=>intro p s k d h;exact k.elim
 |yield v g l k ih=>intro p s _ _ h;exact h
 |stack k ih=>intro p s k d h;exact ih _ p _ (k _) d h
 |fork c k ih=>intro p s _ _ h;exact h
 |thread k ih=>intro p s k d h;exact ih _ p _ (k _) d h
 |await a t d l k ih=>intro p s _ _ h;exact h
theorem Ziw {M:Model}{A:Around}{α:Type}{t:Sem α}{Q:α->Shared->Prop}{E:Value->Shared->Prop}{s:Shared} (k:KD t) (h:wpAny M A t Q E s):wpAny M A t (fun a s'=>Q a s'/\DK s.heap s'.heap) (fun e s'=>E e s'/\DK s.heap s'.heap) s:=
 fun Γ p hΓ=>Zmj t p s k (DK.refl _) (h Γ p hΓ)
theorem ZJ {α β:Type}:∀(m:Sem α) {f:α->Sem β},KD m->(∀a,KD (f a))->KD (m >>= f):=by
 intro m f
 show KD m->_->KD (m.bind f)
 induction m with
 |pure a=>intro _ h;exact h a
 |raise e=>intro _ _;trivial
 |unsupported w=>intro _ _;trivial
 |finish e=>intro _ _;trivial
 |rule t k ih=>intro k h;exact ih () k h
 |«at» q k ih=>intro k h;exact ih () k h
 |load a q k ih=>intro k h o;exact ih o (k o) h
 |update a q g k ih=>intro k h;exact⟨k.1,ih () k.2 h⟩
 |alloc o k ih=>intro k h a;exact ih a (k a) h
 |loadIfAlive a k ih=>intro k h o;exact ih o (k o) h
 |point l k ih=>intro k h;exact ih () k h
 |register a k ih=>intro _ _;trivial
 |fresh k ih=>intro k h a;exact ih a (k a) h
 |ask k ih=>intro k h a;exact ih a (k a) h
 |choose a n k ih=>intro k h a;exact ih a (k a) h
 |os q l k ih=>intro k h a;exact ih a (k a) h
 |call c h g l k ih=>intro k h;exact k.elim
 |handled o k ih=>intro k h a;exact ih a (k a) h
 |newGen c k ih=>intro k h a;exact ih a (k a) h
 |genState g k ih=>intro k h a;exact ih a (k a) h
 |resume g r l k ih=>intro k h;exact k.elim
 |yield v g l k ih=>intro _ _;trivial
 |stack k ih=>intro k h a;exact ih a (k a) h
 |fork c k ih=>intro _ _;trivial
 |thread k ih=>intro k h a;exact ih a (k a) h
 |await a t d l k ih=>intro _ _;trivial
theorem Je {α:Type}{a:α}:KD (pure a:Sem α):=trivial
theorem QI {α:Type}{w:String}:KD (unsupported w:Sem α):=trivial
theorem Zcl {a:Addr}:KD (load a):=fun _=>trivial
theorem ZkT (g:Array Value->Array Value) (o:Obj):(Obj.mapFields g o).dict=o.dict/\(o.isFreed=false->(Obj.mapFields g o).isFreed=false):=by
 obtain⟨c,d,dt,sl⟩:=o
 cases dt<;>exact⟨rfl,fun h=>h⟩
theorem Zcn (v:Value):KD (fieldsOf v):=by
 unfold fieldsOf
 cases v<;>try exact QI
 refine ZJ _ Zcl fun o=>?_
 cases o.data<;>first|exact Je|exact QI
theorem UU (v:Value) (i:Nat):KD (field v i):=by
 unfold field
 refine ZJ _ (Zcn v) fun vs=>?_
 cases vs[i]?<;>first|exact Je|exact QI
theorem VO (v:Value) (i:Nat) (x:Value):KD (setField v i x):=by
 unfold setField
 cases v<;>try exact QI
 unfold updateField
 refine ZJ _ Zcl fun o=>?_
 cases o.data<;>try exact QI
 dsimp only
 split
 ·exact⟨fun o=>ZkT _ o,trivial⟩
 ·exact QI
theorem Zbv (e:Value) (f:Option Addr):KD (setFlight e f):=by
 unfold setFlight
 refine ZJ _ (UU e 1) fun tb=>?_
 split
 ·exact VO _ _ _
 ·exact Je
theorem Zbw (ty:String) (vs:List Value):KD (newFields ty vs):=by
 unfold newFields newObj newObjAsIs
 dsimp only
 have al:∀(o:Obj),KD (alloc o):=fun _ _=>trivial
 split
 ·exact ZJ _ QI fun _=>ZJ _ (al _) fun _=>Je
 ·exact ZJ _ (al _) fun _=>Je
theorem ZfA (env:Env) (outer:List Env):KD (behindIsImport env outer):=by
 unfold behindIsImport
 split
 ·exact Je
 ·split
  ·exact Je
  ·exact ZJ _ (UU _ _) fun _=>Je
theorem Zcm (env:Env) (i:Bool) (outer:List Env):KD (keptBack env i outer):=by
 cases outer with
 |nil =>
  have u:KD underTheClaimsCaller:=by
   unfold underTheClaimsCaller
   exact ZJ _ (show KD stack from fun _=>trivial) fun _=>Je
  rw[keptBack]
  split
  ·exact Je
  ·exact ZJ _ u fun _=>Je
 |cons c r=>unfold keptBack;exact Je
theorem Zh0 {o:Obj}{sl:Array (Option Value)}:({ o with slots:=sl }:Obj).dict=o.dict/\(o.isFreed=false->({ o with slots:=sl }:Obj).isFreed=false):=by
 obtain⟨c,d,dt,s⟩:=o
 cases dt<;>exact⟨rfl,fun h=>h⟩
theorem Zdw:∀(l:List Env),KD (readyFrames l)
 |[]=>trivial
 |env::outer=>by
  unfold readyFrames
  cases env.frame with
  |none=>exact QI
  |some f =>
   dsimp only
   refine ZJ _ Zcl fun o=>?_
   split
   ·exact Je
   ·refine ZJ _ (ZfA _ _) fun _=>ZJ _ (Zcm _ _ _) fun _=>ZJ _ ⟨fun o=>Zh0,trivial⟩ fun _=>Zdw outer
theorem Zeh (env:Env):KD (PySem.frameOf env):=by
 unfold PySem.frameOf
 refine ZJ _ ?_ fun l=>ZJ _ ?_ fun r=>?_
 ·unfold frameEnvs
  exact ZJ _ (fun _=>trivial) fun _=>Je
 ·cases (List.dropWhile (fun x=>x.frame != env.frame) l) with
  |nil=>exact Je
  |cons a r=>exact ZJ _ (Zdw _) fun _=>Je
 ·cases r<;>first|exact Je|exact QI
theorem Zh1 (f:Addr) (b:Bool):KD (entryPlaceOf f b):=by
 unfold entryPlaceOf
 refine ZJ _ (show KD stack from fun _=>trivial) fun acts=>?_
 split<;>exact Je
theorem Zjx (e:Value) (env:Env):KD (noteFrame e env):=by
 unfold noteFrame
 cases env.frame with
 |none=>exact QI
 |some f =>
  dsimp only
  refine ZJ _ (UU _ _) fun head=>?_
  have tail:∀(hd:Bool),KD (do setField e 1 (<- EntryCells.newEntry head (<- PySem.frameOf env) .none (rawInt f) .none (<- entryPlaceOf f hd))):=fun hd =>
   ZJ _ (Zeh env) fun _=>ZJ _ (Zh1 _ _) fun _=>ZJ _ (Zbw _ _) fun _=>VO _ _ _
  split
  ·refine ZJ _ (UU _ _) fun x=>?_
   split
   ·exact Je
   ·exact ZJ _ (VO _ _ _) fun _=>tail _
  ·exact tail _
theorem QX (env:Env) (e:Value):KD (leaving env e):=ZJ _ (Zjx e env) fun _=>Zbv e none
theorem JA.there {P:Program}{w:World}{H:Hp}{h:Heap}{a:Addr}{o:HO} (x:JA P w H h a o):∃u,h.get? a=some u:=by
 cases o with
 |lst xs=>obtain⟨_,_,_,_,e⟩:=x;exact⟨_,e⟩
 |tup xs=>obtain⟨_,_,_,_,e,_⟩:=x;exact⟨_,e⟩
 |dK kvs=>obtain⟨_,_,_,_,o,_,_,e,_⟩:=x;exact⟨_,e⟩
 |dT kvs=>obtain⟨_,_,_,_,o,_,_,e,_⟩:=x;exact⟨_,e⟩
 |set S n=>obtain⟨o,_,_,_,e,_⟩:=x;exact⟨_,e⟩
 |ins C dx fs=>obtain⟨_,_,_,e,_⟩:=x;exact⟨_,e⟩
 |own y=>obtain⟨_,e⟩:=x;exact⟨_,e⟩
 |xd fs=>obtain⟨_,⟨_,_,_,e,_⟩,_⟩:=x;exact⟨_,e⟩
 |rng lo hi=>obtain⟨_,_,_,e⟩:=x;exact⟨_,e⟩
 |frz ob u=>exact⟨_,x.1⟩
 |tbl ps=>exact⟨_,x⟩
 |met f y=>exact⟨_,x⟩
 |ext φ=>exact x.2.1
def ZlL (H:Hp) (ea k:Addr) (o:Obj):Prop:=(o.dict=none/\k=ea)\/(o.dict=some k/\∃fs,H k=some (.xd fs))
structure Fly (P:Program) (w:World) (outer:List Env) (H:Hp) (s:Shared) (ea k:Addr) (cls:Value) (H':Hp) (s':Shared):Prop where
 os:s'.os=s.os
 bare:AllBare s'.gens
 un:Un (frs outer) [] H H' s.heap s'.heap
 hok:HOk P w H' s'.heap
 new:H' ea=none
 dict:∃o,s'.heap.get? ea=some o/\ZlL H' ea k o
 fly:∃(Bh:Heap) (t:Addr),Heap.FlyingW Bh outer ea cls (.ref t) s'.heap/\(∀b u,H' b=some u->∀o,s'.heap.get? b=some o->Bh.get? b=some o)/\∀b o,s.heap.get? b=some o->b ∉ frs outer->∃o',Bh.get? b=some o'
noncomputable def CX1 (P:Program) (w:World):CXT:=fun outer H s E e s'=>∃ea k cls H',e=.ref ea/\Fly P w outer H s ea k cls H' s'/\E cls (some k) H'
section
variable {P:Program}{w:World}{K:W.Frag}{mg:Str->Option Value}{base:Heap}{N:List Str}{qual:Str}{scope:Scope}{f:Addr}{cd:Value}{A:Around}{outer:List Env}{s:Shared}{H:Hp}{E:XK}
 {pins:List (Addr×Obj)}{σ:St}{H1 H':Hp}{s1 s':Shared}{g h'' Bh:Heap}{ea k t:Addr}{cls:Value}
theorem ZfO (I:Inv (ZbC (CX1 P w) P w K mg base N qual scope f cd A outer s H E) pins σ H1 s1) (os:s'.os=s1.os) (bare:AllBare s'.gens) (un:Un (s.heap.objs.size::frs outer) [] H1 H' s1.heap g) (hok:HOk P w H' g) (up:g.UpToSlots h'')
  (fl:Heap.FlyingW Bh outer ea cls (.ref t) h'') (st:Bh.StaysIn g) (c1:∀b u,H' b=some u->∀o,g.get? b=some o->Bh.get? b=some o) (c2:∀b o,s.heap.get? b=some o->b ∉ s.heap.objs.size::frs outer->∃o',Bh.get? b=some o')
  (new:H' ea=none) (dn:∃o,g.get? ea=some o/\ZlL H' ea k o) (dk:DK g h''):Fly P w outer H s ea k cls H' { s' with heap:=h'' }:=by
 have neL:∀b o,s.heap.get? b=some o->b≠s.heap.objs.size:=fun b o e=>ZtU (Heap.lt_size e)
 have nin:∀b o,s.heap.get? b=some o->b ∉ frs outer->b ∉ s.heap.objs.size::frs outer:=fun b o e n z=>(ZtN.mp z).elim (neL b o e) n
 have b0:Un (frs outer) [] H H1 s.heap s1.heap:=I.base
 have fr0:∀b∈frs outer,H b=none:=I.ok.frf
 have slot:∀b o,s.heap.get? b=some o->H b=none->b∈frs outer->∃sl,h''.get? b=some { o with slots:=sl }:=fun b o q n hb=>by
  obtain⟨s2,e1⟩:=b0.slot b o q n hb (by simp)
  obtain⟨s3,e2⟩:=un.slot b _ e1 (b0.free b o q n (by simp)) (Zui _ hb) (by simp)
  obtain⟨_,o',ho',hnf⟩:=Heap.FunFrames.mem (show s.heap.FunFrames base outer from I.ok.funs) hb
  rw[q] at ho';cases ho'
  obtain⟨s4,e3⟩:=up b _ e2 hnf
  exact⟨s4,e3⟩
 have keepB:∀b o,s.heap.get? b=some o->H b=none->b ∉ frs outer->Bh.get? b=some o:=fun b o q n hb=>by
  have e1:=b0.keep b o q n hb (by simp)
  have e2:=un.keep b o e1 (b0.free b o q n (by simp)) (nin b o q hb) (by simp)
  obtain⟨o',e3⟩:=c2 b o q (nin b o q hb)
  have e4:=st b o' e3
  rw[e2] at e4;cases e4
  exact e3
 have thereB:∀b o,s.heap.get? b=some o->b ∉ frs outer->∃o',Bh.get? b=some o':=fun b o q hb=>by
  exact c2 b o q (nin b o q hb)
 refine⟨os.trans I.os,bare,⟨fun b o q n hb _=>fl.1 b o (keepB b o q n hb),fun b o q n hb _=>slot b o q n hb,fun b o q n _=>?_,fun b o q _=>?_,fun b xs q=>un.tups b xs (b0.tups b xs q),fun b o xs q=>un.frzs b o xs (b0.frzs b o xs q),fun b ps q=>?_⟩,fun b u e=>?_,new,(let ⟨o,e,d⟩:=dn;let ⟨o',e',d'⟩:=dk ea o e;⟨o',e',by unfold ZlL at d ⊢;rw[d'];exact d⟩),Bh,t,fl,fun b u e o q=>?_,thereB⟩
 ·obtain⟨o1,e1⟩:=b0.there b o q (by simp)
  exact un.free b o1 e1 (b0.free b o q n (by simp)) (by simp)
 ·by_cases hb:b∈frs outer
  ·obtain⟨sl,e⟩:=slot b o q (fr0 b hb) hb
   exact⟨_,e⟩
  ·obtain⟨o',e⟩:=thereB b o q hb
   exact⟨o',fl.1 b o' e⟩
 ·obtain⟨m1,e1⟩:=b0.tbls b ps q
  obtain⟨m2,e2⟩:=un.tbls b _ e1
  exact⟨m1++m2,by rw[e2,Array.append_assoc]⟩
 ·refine(hok b u e).stay (fun c v hc q=>?_) (fun _ q=>q) fun _ _ q=>q
  rcases hc with rfl|hc
  ·exact fl.1 c v (c1 c u e v q)
  ·exact fl.1 c v (c1 c _ hc v q)
 ·obtain⟨o1,e1⟩:=(hok b u e).there
  have e2:=c1 b u e o1 e1
  have e3:=fl.1 b o1 e2
  rw[e3] at q;cases q
  exact e2
def ZjR (X:Cx) (E:St->XK):Prop:=∀(pins:List (Addr×Obj)) (σ:St) (H:Hp) (s:Shared) (e:Value) (s':Shared),Inv X pins σ H s->CX1 X.prog X.w X.stack H s (E σ) e s'->X.xe e s'
def Zl8 (X:Cx) (E:St->XK):Prop:=∀(pins:List (Addr×Obj)) (σ:St) (H:Hp) (s:Shared) (h':Heap) (ea:Addr) (cls:Value) (args:List Value),Inv X pins σ H s->Heap.MadeExcOf s.heap h' ea cls args->E σ cls (some ea) H->X.xe (.ref ea) { s with heap:=h' }
theorem Qm:ZjR (ZbC (CX1 P w) P w K mg base N qual scope f cd A outer s H E) (fun _=>E):=fun pins σ H1 s1 e s' I hq=>by
 obtain⟨ea,k,cls,H',rfl,F,hE⟩:=hq
 obtain⟨Bh,t,fl,c1,c2⟩:=F.fly
 refine wpAny_mono (Ziw (QX _ _) (wpAny_leaves_onW (Q:=fun _ s''=>∃h'',s''={ s' with heap:=h'' }/\Heap.FlyingW Bh outer ea cls (.ref t) h''/\s'.heap.UpToSlots h'') I.ok.frames rfl fl fun h'' fl'' up=>⟨h'',rfl,fl'',up⟩)) (fun _ s'' q=>?_) fun _ _ q=>q.1
 obtain⟨⟨h'',rfl,fl'',up⟩,dk⟩:=q
 exact⟨ea,k,cls,H',rfl,ZfO I F.os F.bare F.un F.hok up fl'' fl.1 c1 (fun b o e n=>let ⟨o1,e1⟩:=(show Un (frs outer) [] H H1 s.heap s1.heap from I.base).there b o e (by simp);c2 b o1 e1 n) F.new F.dict dk,hE⟩
theorem U3:Zl8 (ZbC (CX1 P w) P w K mg base N qual scope f cd A outer s H E) (fun _=>E):=fun pins σ H1 s1 h' ea cls args I hx hE=>by
 have hin:∀env∈(ZbC (CX1 P w) P w K mg base N qual scope f cd A outer s H E).stack,∀b,env.frame=some b->b∈frs (ZbC (CX1 P w) P w K mg base N qual scope f cd A outer s H E).stack:=fun env he b hb=>Zv1.mpr ⟨env,he,hb⟩
 have trk:∀b u,H1 b=some u->b ∉ frs (ZbC (CX1 P w) P w K mg base N qual scope f cd A outer s H E).stack:=fun b u e z=>by rw[I.stkFree b z] at e;cases e
 have new:H1 ea=none:=by
  cases q:H1 ea with
  |none=>rfl
  |some u=>obtain⟨o,e⟩:=(I.hok ea u q).there;rw[hx.new] at e;cases e
 refine wpAny_mono (Ziw (QX _ _) (wpAny_leaves_madeW (Q:=fun _ s''=>∃h'' t,s''={ s1 with heap:=h'' }/\Heap.FlyingW (PySem.W.hideAll s1.heap (frs (ZbC (CX1 P w) P w K mg base N qual scope f cd A outer s H E).stack)) outer ea cls (.ref t) h''/\h'.UpToSlots h'')
  (base:=PySem.W.hideAll s1.heap (frs (ZbC (CX1 P w) P w K mg base N qual scope f cd A outer s H E).stack)) (h:=s1.heap) I.ok.frames rfl (fun b o q=>PySem.W.of_hideAll _ q) (PySem.W.funFrames_hide I.stack hin) hx fun h'' t fl _ _ up=>⟨h'',t,rfl,fl,up⟩)) (fun _ s'' q=>?_) fun _ _ q=>q.1
 obtain⟨⟨h'',t,rfl,fl,up⟩,dk⟩:=q
 have dn:∃o,h'.get? ea=some o/\ZlL H1 ea ea o:=by obtain⟨t,e,_⟩:=hx.there;exact⟨_,e,.inl ⟨rfl,rfl⟩⟩
 refine⟨ea,ea,cls,H1,rfl,ZfO (g:=h') (t:=t) (s':={ s1 with heap:=h' }) I rfl I.bare (Un.kept hx.keeps) (I.hok.kept hx.keeps) up fl (fun b o q=>hx.keeps b o (PySem.W.of_hideAll _ q)) (fun b u e o q=>?_) (fun b o q n=>let ⟨o1,e1⟩:=(show Un (frs outer) [] H H1 s.heap s1.heap from I.base).there b o q (by simp);⟨o1,PySem.W.hideAll_get _ e1 n⟩) new dn dk,hE⟩
 obtain⟨o1,e1⟩:=(I.hok b u e).there
 have e2:=hx.keeps b o1 e1
 rw[q] at e2;cases e2
 exact PySem.W.hideAll_get _ e1 (trk b u e)
end
noncomputable def Zms:List Value:=[.type "ValueError",.type "Exception",.type "BaseException",.type "object"]
noncomputable def ZhU (C:Addr) (E:St->XK) (ta:TA):TS:=fun D σ H=>ta σ H fun vs H1=>vs.length<=1000/\∀ea,H1 ea=none->E σ (.ref C) (some ea) H1
theorem Zj6 {K:W.Frag}{h₀:Heap}{C:Addr}{bmB:List Value}{newId:String} (X:K.In h₀) (q:PySem.W.excIn K C bmB newId=true) :
  ∃tl N nm qn bs hdct sn sub ab col dd k0 k1 k2 k3 k5 mN,h₀.get? C=some (excClassObj nm qn C N bs tl hdct sn sub ab col dd k0 k1 k2 k3 k5 newId)/\h₀.Ns N mN/\mN "__init__"=none/\OwnTail h₀ bmB tl:=by
 unfold PySem.W.excIn at q
 split at q
 ·rename_i dd cd sl ho
  split at q
  ·rename_i C' bm k0 k1 k2 k3 n k5 hm hs
   simp only[Bool.and_eq_true,beq_iff_eq,Bool.not_eq_true'] at q
   obtain⟨⟨⟨⟨⟨rfl,rfl⟩,hdel⟩,ht⟩,hok⟩,hni⟩:=q
   obtain⟨nm,bs,mro,ns,qn,hd,sn,sub,ab,col,del⟩:=cd
   dsimp only at hm hdel hok hni
   subst hm hdel
   have hsl:sl=#[k0,k1,k2,k3,some (.builtin n),k5]:=by
    obtain⟨l⟩:=sl
    simp only at hs
    rw[hs]
   subst hsl
   exact⟨bm,ns,nm,qn,bs,hd,sn,sub,ab,col,dd,k0,k1,k2,k3,k5,_,X _ _ ho,.of_isNs (PySem.W.isNs_of_in X hok),PySem.W.nsMap_none_of_in X hok hni,PySem.W.tail_of_in X ht⟩
  ·cases q
 ·cases q
section
variable {X:Cx}{E:St->XK}{x:Str}{C:Addr}{np cpos pos:Pos}{e:Expr}{es:List Expr}{ta:TA}
theorem V8 (hM:Zl8 X E) (hq:PySem.W.excIn X.K C Zms "ValueError.__new__"=true) (hg:Gl X x) (hm:X.mg x=some (.ref C)) (hc:X.calm=true) (ha:PA X (e::es) ta) (hdb:(x==("__debug__":Str))=false:=by decide)
  (he:starEach (e::es) X.env=(false,eval e X.env)::starEach es X.env:=by rfl) (hpl:(backTo cpos (starEach es X.env)).any (·.1)=false:=by rfl) :
  PS X (.Raise (some (.Call (.Name x np) (e::es) [] cpos)) none pos) (ZhU C E ta):=by
 intro pins s σ H D I h
 obtain⟨tl,N,nm,q,bs,hdct,sn,sub,ab,col,dd,k0,k1,k2,k3,k5,mN,hC,hN,hni,T⟩:=Zj6 I.ok.mod.kin hq
 refine wpAny_Raise_call_subT (C:=C) (nm:=nm) (q:=q) (N:=N) (bs:=bs) (bm:=tl) (hdct:=hdct) (sn:=sn) (sub:=sub) (ab:=ab) (col:=col) (dd:=dd) (k0:=k0) (k1:=k1) (k2:=k2) (k3:=k3) (k5:=k5)
  PySem.F.excBase_ValueError (mN:=mN) (T.hasType PySem.F.excBase_ValueError.hasBase) (I.ok.hd hc) (by rw[he];show (false || (backTo cpos (starEach es X.env)).any (·.1))=false;rw[hpl];rfl) hni (Qz I hg hm ⟨rfl, ?_⟩ hdb)
 have h2:=ha cpos pins s σ H _ I h
 rw[he] at h2 ⊢
 refine Calls.evalArgs_plain (wpAny_mono h2 (fun us s₂ z=>?_) fun _ _ y=>y)
 obtain⟨vs,H1,I1,r,hl,hE⟩:=z
 have hnew:∀{h':Heap}{ea:Addr}{args:List Value},Heap.MadeExcOf s₂.heap h' ea (.ref C) args->H1 ea=none:=fun {h' ea args} hx=>by
  cases q:H1 ea with
  |none=>rfl
  |some u=>obtain⟨o,e⟩:=(I1.hok ea u q).there;rw[hx.new] at e;cases e
 exact⟨rfl,ZtV (by rw[<- r.length];exact hl) (by decide),I1.bk _ _ hC,hN.keeps I1.bk,T.keeps I1.bk,fun h' ea hx=>hM pins σ H1 s₂ h' ea _ _ I1 hx (hE ea (hnew hx))⟩
end
end L2
namespace PySem.W
open PySem PySem.Spec PySem.Calls PyProof.Rows
section
variable {K:Frag}{D:Addr}
noncomputable def exOk (K:Frag) (D:Addr):Bool:=(findIn K (.ref D) "__getattribute__" == some (some (.builtin "BaseException.__getattribute__")))&&(findIn K (.ref D) "__getattr__" == some none)&&(mroIn K D (.type "BaseException")==some true)&&(mroIn K D (.type "object")==some true) &&
 (findIn K (.ref D) "__class__" == some (some (.builtin "object.__class__")))&&(specialIn K (.builtin "object.__class__") "__get__" == some (some (.builtin "getset_descriptor.__get__")))&&(takesIn K (.builtin "object.__class__")==some true)&&(clsIn K D).isSome
end
end PySem.W
namespace L2
open PySem PySem.Spec PyProof.Rows
def OkX (P:Program) (w:World) (K:W.Frag) (mg:Str->Option Value) (base:Heap) (k:Nat) (x:Str) (ps:List Str) (sp:Sp):Prop:=
 ∃f fd,JB P w K mg base (CX1 P w) k f fd ps sp/\mg x=some (.ref f)/\PySem.W.keepIn K (.ref f)=true/\ZbL K fd ps []
theorem Zfv {P:Program}{w:World}{K:W.Frag}{mg:Str->Option Value}{base:Heap}{k:Nat}{x:Str}{st:Stmt}{ps:List Str}{sp:Sp} (d:Dfn K mg x st) (b:Zt x st ps)
  (h:∀{f fd},Fun K x x st f fd->JB P w K mg base (CX1 P w) k f fd ps sp):OkX P w K mg base k x ps sp:=by
 obtain⟨f,fd,F,hm⟩:=d
 exact⟨f,fd,h F,hm,F.kp,F.binds b⟩
section
variable {X:Cx}{k:Nat}{x:Str}{ps:List Str}{sp:Sp}{p pos:Pos}{e:Expr}{es:List Expr}{t:TA}{E:St->XK}
noncomputable def ZeG (sp:Sp) (E:St->XK) (t:TA):TE:=fun σ H Q=>t σ H fun vs H1=>sp vs H1 Q (E σ)
theorem Vh (G:OkX X.prog X.w X.K X.mg X.base k x ps sp) (hr:UH k X.A) (hg:Gl X x) (hx:ZjR X E) (ha:PA X (e::es) t) (hdb:(x==("__debug__":Str))=false:=by decide)
  (he:starEach (e::es) X.env=(false,eval e X.env)::starEach es X.env:=by rfl) (hpl:(backTo pos (starEach es X.env)).any (·.1)=false:=by rfl):PE X (.Call (.Name x p) (e::es) [] pos) (ZeG sp E t):=by
 obtain⟨f,fd,F,hm,hk,hb⟩:=G
 intro pins s σ H Q I h
 refine wpAny_Call_Name_kw (Qz I hg hm ?_ hdb)
 refine PySem.W.callWith_K (h₀:=X.base) I.ok.mod.kin hk (thn (ha pos pins s σ H _ I h) fun us s1 ⟨vs,H1,I1,r,q⟩=>⟨I1.kIn, ?_⟩) he hpl
 have hl:(us++[]).length=ps.length:=by rw[Zu9,<- r.length];exact F.len _ _ _ _ q
 have hb':=hb s1 us I1.kIn hl
 rw[Zu9] at hb'
 refine wpAny_call (codeAny_mono (F.run X.A X.stack s1 H1 ⟨us,[]⟩ us vs Q (E σ) hr I1.env0 hb' r q) fun r s' hq=>?_)
 cases r with
 |error e=>exact hx pins σ H1 s1 e s' I1 hq
 |ok fl =>
  cases fl with
  |ret u=>exact I1.after hq
  |next=>exact False.elim hq
  |brk=>exact False.elim hq
  |cont=>exact False.elim hq
end
noncomputable def Znj:PV->Hp->Addr->Prop
 |.non,H,k=>H k=none
 |.int i,H,k=>∃fs,H k=some (.xd fs)/\fs=[(("at":Str),V.int i)]
 |_,_,_=>False
def W1 (K:W.Frag):PX->XK->Hp->Prop:=fun e E H'=>∀C k,ZjP K e.1 C->Znj e.2 H' k->E (.ref C) (some k) H'
section
variable {P:Program}{w:World}{K:W.Frag}{mg:Str->Option Value}{base:Heap}
theorem Fun.okX {x qual:Str}{st:Stmt}{f:Addr}{fd:FuncData}{N ps:List Str}{k n l:Nat}{kd:Kd}{m:List PV->Rr PV} (F:Fun K x qual st f fd) (S:Zz N ps (Zh st)) (hn:ps.length=n) (hl:N.length-n=l)
  (hbody:∀(cdv:Value) (A:Around) (outer:List Env) (s:Shared) (H:Hp) (E:XK),UH k (A.deeper (envOfC qual (Zh st) s.heap.objs.size f cdv)) ->
   ∃t g Y,Y.r=kd/\PSs (ZbC (CX1 P w) P w K mg base N qual (Zh st) f cdv A outer s H E) (Zu st) t/\DS K (fun e H'=>W1 K e E H') (List.replicate n .S++List.replicate l .U) Y t g/\∀xs,Ref (m xs) (g (xs++List.replicate l .non)).out) (hkN:kd≠.N:=by nofun) :
  JB P w K mg base (CX1 P w) (k+1) f fd ps (spF K n kd (W1 K) m):=by
 obtain⟨oc,od,kV,doc,pm,an,cdv,ct,osl,rfl,lk,hcd⟩:=F.ex
 refine Zlg lk hcd S (fun vs H Q E h=>?_) fun A outer s H vs Q E hr h=>?_
 ·obtain⟨B,xs,h1,h2,_⟩:=h
  rw[h1.length,h2,hn]
 ·obtain⟨B,xs,h1,h2,dn⟩:=h
  obtain⟨t,g,Y,hY,ht,hd,href⟩:=hbody cdv A outer s H E hr
  refine⟨t,ht, ?_⟩
  have A0:=Ag.init (n:=l) h1
  have est:VY N vs=vs.map some++List.replicate l none:=by
   unfold VY
   rw[h1.length,h2,hl]
  rw[est]
  rw[h2] at A0
  refine hd _ H H _ _ _ _ A0 ?_
  have hdn:Dn (g (xs++List.replicate l .non)).out (fun x=>∀v H',Z7 H H'->Zi6 K B H kd x v H'->Q v H') (fun e=>∀H',Z7 H H'->W1 K e E H'):=by
   rcases href xs with e|e
   ·rw[e] at dn;exact dn.elim
   ·rw[<- e];exact dn
  have retK:∀{x v H'},Zi6 K (fun a=>B a\/H a=none) H kd x v H'->Zi6 K B H kd x v H':=fun {x v H'} h=>by
   cases kd with
   |P=>exact h
   |F=>exact h
   |T=>exact Rep.mono (fun a us s r=>⟨r,s.elim id .inr⟩) (fun a us r=>r) h
   |Z=>exact Rep.mono (fun a us s r=>⟨r,s.elim id .inr⟩) (fun a us r=>r) h
   |A=>exact Rep.mono (fun a us s r=>⟨r,s.elim id .inr⟩) (fun a us r=>r) h
   |N=>exact h
  cases e:g (xs++List.replicate l .non) with
  |next ρ =>
   rw[e] at hdn
   refine fun σ' H' F' fr A'=>hdn .non H' A'.same ?_
   cases kd with
   |P=>exact⟨rfl,rfl⟩
   |F=>exact⟨[],⟨rfl,rfl⟩,by simp⟩
   |T=>exact rfl
   |Z=>exact rfl
   |A=>exact rfl
   |N=>exact absurd rfl hkN
  |ret x=>rw[e] at hdn;exact fun v H' s r=>hdn v H' s (retK (hY▸r))
  |exc q=>rw[e] at hdn;exact fun H' s=>hdn H' s
  |brk ρ=>rw[e] at hdn;exact hdn.elim
  |cont ρ=>rw[e] at hdn;exact hdn.elim
  |bad=>rw[e] at hdn;exact hdn.elim
end
section
variable {K:W.Frag}{n:Nat}{m:List PV->Rr PV}{ta:TA}{Γ Γ':List Md}{fa:List PV->Rr (List PV)}{E:XK}
noncomputable abbrev EX1 (K:W.Frag) (E:XK):PX->Hp->Prop:=fun e H'=>W1 K e E H'
theorem Zlm (hn:Len fa n) (ha:DAA K (EX1 K E) Γ Γ' ta fa):DE K (EX1 K E) Γ Γ' .P (ZeG (spF K n .P (W1 K) m) (fun _=>E) ta) (fun ρ=>(fa ρ).bind m):=Zd9 (E:=E) (W:=W1 K) (fun σ H Q h=>h) (fun e H' h=>h) hn ha
theorem Zmn {EX:PX->Hp->Prop} (hn:Len fa n) (hm:∀xs q,m xs≠.exc q) (ha:DAA K EX Γ Γ' ta fa):DE K EX Γ Γ' .F (Qc (spF K n .F W0 m) ta) (fun ρ=>(fa ρ).bind m):=fun B H0 H σ ρ F R Q A d=>by
 refine ha B H0 H σ ρ F R _ A (d.bind.imp (fun xs hx d vs H1 F1 s1 f1 p1 A1=>?_) fun e q=>q)
 refine⟨fun _=>True,xs,p1,hn ρ xs hx, ?_⟩
 cases e:m xs with
 |ok x =>
  rw[e] at d
  intro v H2 s2 r
  obtain⟨G,r1,r2⟩:=r
  exact d v H2 (s1.trans s2) ⟨F1,f1,G,r1,fun a ha=>⟨(A1.fresh (r2 a ha)).1,.inl (s1.free (r2 a ha))⟩,A1.more s2 r2 r1.alive⟩
 |exc q=>exact(hm xs q e).elim
 |bad=>rw[e] at d;exact d.elim
theorem ZlH {EX:PX->Hp->Prop} (hn:Len fa n) (hm:∀xs q,m xs≠.exc q) (ha:DAA K EX Γ Γ' ta fa):DE K EX Γ Γ' .P (Qc (spF K n .P W0 m) ta) (fun ρ=>(fa ρ).bind m):=fun B H0 H σ ρ F R Q A d=>by
 refine ha B H0 H σ ρ F R _ A (d.bind.imp (fun xs hx d vs H1 F1 s1 f1 p1 A1=>?_) fun e q=>q)
 refine⟨fun _=>True,xs,p1,hn ρ xs hx, ?_⟩
 cases e:m xs with
 |ok x=>rw[e] at d;exact fun v H2 s2 r=>d v H2 (s1.trans s2) ⟨F1,f1,r.1,r.2,A1.grow s2⟩
 |exc q=>exact(hm xs q e).elim
 |bad=>rw[e] at d;exact d.elim
def Pm.calm (m:Pm):Prop:=∀a q,m.out a≠.exc q
theorem Pm.calm_fn {m:Pm} (h:m.calm) (xs:List PV) (q:PX):m.fn xs≠.exc q:=by
 unfold Pm.fn
 by_cases hx:∃a,m.enc a=xs/\m.pre a
 ·rw[dif_pos hx];exact h _ q
 ·rw[dif_neg hx];exact fun z=>by cases z
theorem VD {C:Addr}{x:Str}{Y:Tys} (hC:ZjP K x C) (hn:Len fa n) (hl:n<=1000) (ha:DAA K (EX1 K E) Γ Γ' ta fa):DS K (EX1 K E) Γ Y (ZhU C (fun _=>E) ta) (fun ρ=>(fa ρ).thenS fun _=>.exc (x,.non)):=fun B H0 H σ ρ F D A d=>by
 refine ha B H0 H σ ρ F [] _ A (d.thenS.imp (fun xs hx d vs H1 F1 s1 f1 p1 A1=>?_) fun e q=>q)
 exact⟨by rw[p1.length,hn ρ xs hx];exact hl,fun ea hea=>d H1 A1.same C ea hC hea⟩
end
noncomputable def ZmV (K:W.Frag) (n:Str):Bool:=match PySem.W.nsIn K mainGlobals n with
 |some (some (.ref C))=>PySem.W.exOk K C&&(PySem.W.kitOne K (.type "NoneType") (.ref C)==some false)&&(PySem.W.kitOne K (.ref C) (.type "ValueError")==some true)
 |_=>false
noncomputable def ZmU (K:W.Frag) (q:Str×Str×Bool):Bool:=match PySem.W.nsIn K mainGlobals q.1,PySem.W.nsIn K mainGlobals q.2.1 with
 |some (some (.ref D)),some (some (.ref C))=>(PySem.W.kitOne K (.ref D) (.ref C)==some q.2.2)&&(PySem.W.exmOne K (.ref D) (.ref C)==some q.2.2)
 |_,_=>false
noncomputable def Zmz (K:W.Frag) (ns:List Str) (ss:List (Str×Str×Bool)):Bool:=(PySem.W.kitOne K (.type "NoneType") (.type "ValueError")==some false)&&(ns.all (ZmV K)&&ss.all (ZmU K))
section
variable {K:W.Frag}{ns:List Str}{n:Str}
noncomputable def ZiA (K:W.Frag) (ns:List Str):Bool:=ns.all fun n=>match PySem.W.nsIn K mainGlobals n with
 |some (some (.ref C))=>PySem.W.excIn K C Zms "ValueError.__new__"
 |_=>false
theorem UI (h:ZiA K ns=true) (hn:n∈ns):∃C,ZjP K n C/\PySem.W.excIn K C Zms "ValueError.__new__"=true:=by
 have:=Zuo.mp h n hn
 split at this
 ·rename_i C e
  exact⟨C,e,this⟩
 ·cases this
end
theorem Zfb {X:Cx}:ZjR X (fun _=>E0):=fun _ _ _ _ _ _ _ h=>by obtain⟨_,_,_,_,_,_,q⟩:=h;exact q.elim
section
variable {K:W.Frag}{n:Nat}{m:List PV->Rr PV}{ta:TA}{Γ Γ':List Md}{fa:List PV->Rr (List PV)}
theorem ZmM (hn:Len fa n) (ha:DAA K X0 Γ Γ' ta fa):DE K X0 Γ Γ' .F (ZeG (spF K n .F (W1 K) m) (fun _=>E0) ta) (fun ρ=>(fa ρ).bind m):=ZdA (E:=E0) (W:=W1 K) (fun σ H Q h=>h) (fun e H' h=>h.elim) hn ha
end
theorem Zfw {x:Str} (h:PyData.canLay0 (.str x)=true):okD (.str x)=true:=by simp[okD,PV.noX,PV.dat,PyData.depth,h]
theorem Qt {g:Bool->Bool}{a b:Str} (ha:PyData.canLay0 (.str a)=true) (hb:PyData.canLay0 (.str b)=true):US g (.str a) (.str b)=.ok (.bl (g (a==b))):=by
 unfold US
 rw[Zfw ha,Zfw hb]
 simp only[Bool.and_self,if_true,PV.dat,PyData.eqv]
section
end
theorem ZI {ns ms:List Int}:ns.map PV.int=ms.map PV.int ↔ ns=ms:=⟨Jn,fun h=>by rw[h]⟩
noncomputable def orX (o:Option Str) (x:PV):Rr PV:=match o with
 |none=>.ok x
 |some n=>.exc (n,.non)
theorem ZP {b:PV->List PV->RS}{xs:List PV}{ρ:List PV}{W:RS} (hw:UV b xs ρ=W) (I:Nat->List PV->Prop) (h0:I 0 ρ) (h:∀i x ρ,xs[i]?=some x->I i ρ->(b x ρ).good (I (i+1))) :
  ∃ρ',W=.next ρ'/\I xs.length ρ':=by
 obtain⟨ρ',h1,h2⟩:=Zd3 I h0 h
 exact⟨ρ',hw.symm.trans h1,h2⟩
theorem UY {c:List PV->Rr Bool}{b:List PV->RS}{ρ:List PV}{W:RS} (hw:VT c b ρ=W) (N:Nat) (I:Nat->List PV->Prop) (h0:I 0 ρ) (hs:∀i ρ,i<N->I i ρ->c ρ=.ok true/\(b ρ).good (I (i+1))) (he:∀ρ,I N ρ->c ρ=.ok false) :
  ∃ρ',W=.next ρ'/\I N ρ':=by
 subst hw
 have key:∀m i ρ,N=i+m->I i ρ->∃ρ',Vt c b (m+1) ρ=some (.next ρ')/\I N ρ':=by
  intro m
  induction m with
  |zero =>
   intro i ρ hl hI
   obtain rfl:N=i:=by omega
   refine⟨ρ, ?_,hI⟩
   unfold Vt
   rw[he ρ hI]
  |succ m ih =>
   intro i ρ hl hI
   obtain⟨h1,h2⟩:=hs i ρ (by omega) hI
   obtain⟨ρ',h3,h4⟩:=RS.good_ex h2
   obtain⟨ρ2,h5,h6⟩:=ih (i+1) ρ' (by omega) h4
   refine⟨ρ2, ?_,h6⟩
   unfold Vt
   rw[h1]
   rcases h3 with h3|h3<;>(rw[h3];exact h5)
 obtain⟨ρ',h1,h2⟩:=key N 0 ρ (by omega) h0
 exact⟨ρ',ZaS h1,h2⟩
theorem Zhw {f:PV->Rr PV}{g:Int->Int}{ns:List Int} (h:∀z∈ns,f (.int z)=.ok (.int (g z))):ZaP f (ns.map PV.int)=.ok ((ns.map g).map PV.int):=by
 induction ns with
 |nil=>rfl
 |cons n ns ih =>
  simp only[ZtP,ZaP,h n (by simp),Rr.bind_ok,ih fun z hz=>h z (by simp[hz])]
theorem Zf5 {f:PV->Rr PV}{g:Int->Bool}{ns:List Int} (h:∀z∈ns,f (.int z)=.ok (.bl (g z))):ZaP f (ns.map PV.int)=.ok ((ns.map g).map PV.bl):=by
 induction ns with
 |nil=>rfl
 |cons n ns ih =>
  simp only[ZtP,ZaP,h n (by simp),Rr.bind_ok,ih fun z hz=>h z (by simp[hz])]
theorem Zjs {f:PV->Rr PV}{g:Nat->Int}{lo:Int}{n:Nat} (h:∀i,i<n->f (.int (lo+(i:Nat)))=.ok (.int (g i))):ZaP f (ZbN lo n)=.ok (((List.range n).map g).map PV.int):=by
 unfold ZbN
 have:∀l:List Nat,(∀i∈l,i<n)->ZaP f (l.map fun(k:Nat)=>PV.int (lo+(k:Int)))=.ok ((l.map g).map PV.int):=by
  intro l
  induction l with
  |nil=>intro _;rfl
  |cons a l ih =>
   intro hl
   simp only[ZtP,ZaP,h a (hl a (by simp)),Rr.bind_ok,ih fun i hi=>hl i (by simp[hi])]
 exact this _ fun i hi=>Zug.mp hi
theorem Zhr (bs:List Bool):ZkG [.lst (bs.map PV.bl)]=.ok (.bl (bs.all id)):=by simp only[ZkG,Zgx]
theorem Zg5 {ns:List Int}{p:Int->Prop} [DecidablePred p]:(ns.map fun z=>decide (p z)).all id=decide (∀x∈ns,p x):=by
 rw[Bool.eq_iff_iff,Zuo,decide_eq_true_iff]
 simp
theorem Zlz {ns:List Int}{h:Int} (h0:0<=h):ZjJ (ns.map PV.int) none (some h)=(ns.take h.toNat).map PV.int:=by
 unfold ZjJ HT.sIx
 simp only[ZtG,ZuQ,Nat.sub_zero]
 rw[if_neg (by omega),<- List.map_take]
 congr 1
 rw[List.take_eq_take_iff];omega
theorem ZhN {ns:List Int}{l:Int} (h0:0<=l):ZjJ (ns.map PV.int) (some l) none=(ns.drop l.toNat).map PV.int:=by
 unfold ZjJ HT.sIx
 simp only[ZtG]
 rw[if_neg (by omega),<- List.map_drop,<- List.map_take]
 congr 1
 rw[Zue (by simp)]
 by_cases h:l.toNat<=ns.length
 ·rw[Nat.min_eq_left h]
 ·rw[Zu8 (by omega),Zu8 (by omega)]
theorem ZkB {i j:Int} (h1:-(10^80)<=i) (h2:i<=10^80) (h3:-(10^80)<=j) (h4:j<=10^80):ZlZ (.int i) (.int j)=.ok (.int (i*j)):=Zff (ZjK 80 80 (by omega) (by omega))
theorem Zht {x:PV}:orX none x=.ok x:=rfl
theorem Zhs {x:PV}{n:Str}:orX (some n) x=.exc (n,.non):=rfl
theorem ZeO {n:Nat}:List.replicate (n+1) PV.non=PV.non::List.replicate n PV.non:=rfl
theorem ZeN:List.replicate 0 PV.non=[]:=rfl
theorem Zjg {a b:PV}:ZgB [.tup [a,b]]=.ok (.int 2):=rfl
section
end
theorem Zh5 {a:Str}{b:Int}:grd (.tup [.str a,.int b])=.ok (.tup [.str a,.int b]):=rfl
theorem Zh6 {a b:Int}:grd (.tup [.int a,.int b])=.ok (.tup [.int a,.int b]):=rfl
theorem Zhl {g:Bool->Bool}:ZmF g .non=.ok (.bl (g true)):=rfl
theorem Zji {g:Bool->Bool}{ns:List Int}:US g (.lst (ns.map PV.int)) (.lst [])=.ok (.bl (g (decide (ns=[])))):=Zax ns []
section
variable {prog:Program}{w:World}{A:Around}{R:Result->Shared->Prop}{s:Shared}
theorem VR {elt target iter:Expr}{ifs:List Expr}{scope:Scope}{pos:Pos}{it acc:Value}{env:Env} (I:Nat->Shared->Prop)
  (turn:∀n s,I n s->wpAny (model prog w) A (pyNext it) (fun r s₁=>match r with
   |none=>R (.ok .next) s₁
   |some v=>wpAny (model prog w) A (letOwnedTupleGo target it v) (fun _ s₁'=>wpAny (model prog w) A (assign target env v) (fun _ s₂ =>
     wpAny (model prog w) A (forIn ifs true fun c r=>if r=true then do let ok <- isTrue c env (eval c env);pure (ForInStep.yield ok) else pure (ForInStep.yield r)) (fun ok s₃ =>
      if ok=true then wpAny (model prog w) A (eval elt env) (fun x s₄ =>
       wpAny (model prog w) A (call (.builtin "list.append") [acc,x]) (fun _ s₅=>∃m,m<n/\I m s₅) (notedBy (model prog w) A env fun e s'=>R (.error e) s') s₄) (notedBy (model prog w) A env fun e s'=>R (.error e) s') s₃
      else ∃m,m<n/\I m s₃) (notedBy (model prog w) A env fun e s'=>R (.error e) s') s₂) (notedBy (model prog w) A env fun e s'=>R (.error e) s') s₁') (notedBy (model prog w) A env fun e s'=>R (.error e) s') s₁) (notedBy (model prog w) A env fun e s'=>R (.error e) s') s)
  (n:Nat) (h:I n s) :
  codeAny (model prog w) A (.compLoop (.ListComp elt [⟨target,iter,ifs,0⟩] scope pos) 0 it acc env) R s:=by
 refine codeAny_loop rfl I (fun n s hI=>?_) n h
 show wpAny _ A ((compTurn (.ListComp elt [⟨target,iter,ifs,0⟩] scope pos) 0 it acc env).onRaise (fun x=>do noteFrame x env;theTreesLotGoes x)) _ _ s
 refine wpAny_noted ?_
 rw[compTurn_list]
 refine wpAny_bind (wpAny_standAt (wpAny_bind (wpAny_mono (turn n s hI) (fun r s₁ h₁=>?_) fun _ _ h'=>h')))
 cases r with
 |none=>exact wpAny_pure h₁
 |some v =>
  refine wpAny_bind (wpAny_mono h₁ (fun _ s₁' h₁'=>?_) fun _ _ h'=>h')
  refine wpAny_bind (wpAny_mono h₁' (fun _ s₂ h₂=>wpAny_bind (wpAny_mono h₂ (fun ok s₃ h₃=>?_) fun _ _ h'=>h')) fun _ _ h'=>h')
  cases ok with
  |false=>exact wpAny_pure ⟨rfl,h₃⟩
  |true =>
   exact wpAny_bind (wpAny_bind (wpAny_mono h₃ (fun x s₄ h₄=>wpAny_bind (wpAny_mono h₄ (fun _ s₅ h₅=>wpAny_pure (wpAny_pure ⟨rfl,h₅⟩)) fun _ _ h'=>h')) fun _ _ h'=>h'))
end
noncomputable def Zco (xs:List Str) (y:Str):Str:=if xs.contains y then "" else y
noncomputable def UA (X:Cx) (scope:Scope) (xs:List Str) (C:Addr) (ex:List Addr) (s₂:Shared) (H₂:Hp):Cx:=
 { X with N:=X.N.map (Zco xs)++xs,s₀:=s₂,H₀:=H₂,env:=compEnvC scope (ZbE scope X.env) C X.env,outer:=X.stack,ex:=ex,fn:=fun _=>false,pn:=[],xe:=fun _ _=>False }
noncomputable abbrev TB:=V->Hp->List V->Prop
noncomputable def tB1:TB:=fun x _ vs=>vs=[x]
def PB (X:Cx) (scope:Scope) (xs:List Str) (tg:Expr) (Bd:TB):Prop:=∀C s₂ H₂ ex,∀(pins:List (Addr×Obj)) (s:Shared) (σ σx:St) (H:Hp) (x:V) (u:Value) (vs:List V) (E:Value->Shared->Prop),σ.length=X.N.length->σx.length=xs.length ->
 Inv (UA X scope xs C ex s₂ H₂) pins (σ++σx) H s->Jt x u->Bd x H vs->wpAny (model X.prog X.w) X.A (assign tg (UA X scope xs C ex s₂ H₂).env u) (fun _ s'=>Inv (UA X scope xs C ex s₂ H₂) pins (σ++vs.map some) H s') E s
def PCi (X:Cx) (ifs:List Expr) (t:TT):Prop:=∀(pins:List (Addr×Obj)) (s:Shared) (σ:St) (H:Hp) (Q:Bool->Hp->Prop) (E:Value->Shared->Prop),Inv X pins σ H s->t σ H Q ->
 wpAny (model X.prog X.w) X.A (forIn ifs true fun c r=>if r=true then do let ok <- isTrue c X.env (eval c X.env);pure (ForInStep.yield ok) else pure (ForInStep.yield r)) (TP X pins σ Q) E s
noncomputable def Zm0:TT:=fun _ H Q=>Q true H
theorem Zid {X:Cx}:PCi X [] Zm0:=fun pins s σ H Q E I h=>wpAny_tests_nil ⟨_,I,h⟩
def ZeF (σ:St) (Bd:TB) (tt:TT) (te:TE) (J:It) (H1:Hp) (Q:VK):Prop:=∃W:Nat->Nat->List V->Hp->Prop,(∃m,W 0 m [] H1)/\∀i m ys H2,W i m ys H2->ys.length<=sizeLine /\
 ((J.stop i H2/\∀p,H2 p=none->Q (.ref p) (upd H2 p (.lst ys))) \/
  (J.go i H2/\∃N:List V->Hp->Prop,(∀ys' H',N ys' H'->∃m',m'<m/\W (i+1) m' ys' H')/\∀x H3,J.yld i H2 x H3->∃vs,Bd x H3 vs/\tt (σ++vs.map some) H3 fun b H4=>if b=true then te (σ++vs.map some) H4 fun y H5=>N (ys++[y]) H5 else N ys H4))
noncomputable def ZcQ (wi:TI) (Bd:TB) (tt:TT) (te:TE):TE:=fun σ H Q=>wi σ H fun J H1=>ZeF σ Bd tt te J H1 Q
noncomputable def Us (N:List Str) (sc scope:Scope) (xs:List Str):Bool:=xs.all (fun x=>QA [] sc scope x)&&decide (N.map (Zco xs)++xs).Nodup&&!xs.isEmpty&&(N.all fun y=>xs.contains y || !(scope.names.lookup y==some .local))&&(scope.names.lookup (Str.ofString "")==none)
structure CkN (N:List Str) (sc scope:Scope) (xs:List Str):Prop where
 scs:∀x∈xs,V6 [] sc scope x
 nd:(N.map (Zco xs)++xs).Nodup
 ex:∃x,x∈xs
 noN:∀y∈N,y ∉ xs->scope.names.lookup y≠some .local
 noE:scope.names.lookup (Str.ofString "")=none
theorem VQ {N:List Str}{sc scope:Scope}{xs:List Str} (h:Us N sc scope xs=true):CkN N sc scope xs:=by
 unfold Us at h
 simp only[Bool.and_eq_true,Zuo,decide_eq_true_eq,Bool.not_eq_true',Bool.or_eq_true,beq_iff_eq,beq_eq_false_iff_ne] at h
 obtain⟨⟨⟨⟨h1,h2⟩,h3⟩,h4⟩,h5⟩:=h
 refine⟨fun x hx=>V6.of (h1 x hx),h2, ?_,fun y hy hn=>?_,h5⟩
 ·cases xs with
  |nil=>simp at h3
  |cons a l=>exact⟨a,by simp⟩
 ·rcases h4 y hy with z|z
  ·exact absurd (Zvl.mp z) hn
  ·exact z
section
variable {X:Cx}{pins:List (Addr×Obj)}{σ:St}{s₂:Shared}{H₂:Hp}{scope:Scope}{x:Str}{xs:List Str}{tg elt iter:Expr}{ifs:List Expr}{pos:Pos}{Bd:TB}{tt:TT}{te:TE}{J:It}{fp:List Addr}{it:Addr}{tn:Nat->Heap->Prop}
theorem Jy {N0:List Str} (sc:V6 N0 X.env.scope scope x) (ok:X.Ok) {y:Str}{c:Addr} (h:(ZbE scope X.env).lookup y=some c):X.env.cells.lookup y=some c:=by
 have hm:=PySem.mem_of_lookup h
 unfold ZbE at hm
 obtain⟨p,hp,e⟩:=ZtY.mp hm
 have hp':=Zuw.mp (Zv9.mp hp)
 obtain⟨e1,e2⟩:=Prod.mk.inj e
 have hk:=sc.fr p hp'.1 (beq_iff_eq.mp hp'.2)
 obtain⟨c',hc'⟩:=ok.has p.1 hk
 rw[hc'] at e2
 rw[<- e1,hc']
 exact congrArg some e2
theorem ZjL {N0:List Str} (I:Inv X pins σ H₂ s₂) (sc:V6 N0 X.env.scope scope x) {C:Addr} (hC:s₂.heap.objs.size<=C) (ff:∀b∈fp,Ze1 X pins H₂ b) (fo:∀b∈fp,∃o,s₂.heap.get? b=some o):(UA X scope xs C fp s₂ H₂).Ok where
 mod:=I.ok.mod
 kind:=sc.kind
 glob:=I.ok.glob
 blt:=I.ok.blt
 above:=hC
 inj:=fun y z c h1 h2=>I.ok.inj y z c (Jy sc I.ok h1) (Jy sc I.ok h2)
 has:=fun y hy=>by
  have hy':(relabel scope X.env).names.lookup y=some .cell\/(relabel scope X.env).names.lookup y=some .free:=hy
  have hf:scope.names.lookup y=some .free:=by
   rcases hy' with z|z
   ·exact(Z8 sc.nc z).2 (.inl rfl)
   ·exact(Z8 sc.nc z).2 (.inr rfl)
  exact UW hf
 cab:=fun y c h=>by cases h
 hd:=I.ok.hd
 frames:=I.ok.frames
 stk:=.inl rfl
 exf:=fun b hb=>by
  obtain⟨f0,f1,f2,f3,f4,f5⟩:=ff b hb
  obtain⟨o,ho⟩:=fo b hb
  exact⟨ZtU (ZtM (Heap.lt_size ho) hC),fun y c h=>f4 y c (Jy sc I.ok h)⟩
 bs:=I.bs
 bsz:=ZtV I.ok.bsz I.sz
 noex:=fun b o e hb=>by
  obtain⟨f0,f1,f2,f3,f4,f5⟩:=ff b hb
  rcases f3 with z|z
  ·exact I.ok.noex b o e z
  ·exact absurd (ZtM (Heap.lt_size e) (ZtV I.ok.bsz z)) (Zun _)
 exfs:=fun b hb z=>by
  obtain⟨f0,f1,f2,f3,f4,f5⟩:=ff b hb
  rcases ZtN.mp (I.stkSub b z) with e|e
  ·exact f1 e
  ·exact f2 e
 funs:=I.stack
 frf:=I.stkFree
theorem ZbD {E:Value->Shared->Prop}{Q:VK}{RR:Value->Addr->Result->Shared->Prop} (I:Inv X pins σ H₂ s₂) (ck:CkN X.N X.env.scope scope xs) (hx:x∈xs) (hNd:X.N.Nodup) (hc:X.calm=true)
  (T:Zkd X.prog X.w X.K tg J fp it tn) (st:tn 0 s₂.heap) (ff:∀b∈fp,Ze1 X pins H₂ b) (hw:ZeF σ Bd tt te J H₂ Q)
  (hb:PB X scope xs tg Bd) (ht:∀C s₂ H₂ ex,PCi (UA X scope xs C ex s₂ H₂) ifs tt) (he:∀C s₂ H₂ ex,PE (UA X scope xs C ex s₂ H₂) elt te)
  (hvs:∀x H vs,Bd x H vs->vs.length=xs.length)
  (hRR:∀D C s' H' m',s₂.heap.objs.size<=C->Inv X pins σ H' s'->s'.heap.Ns C m'->H' C=none->Q (.ref D) H'->RR (.ref D) C (.ok .next) s') :
  wpAny (model X.prog X.w) X.A (newList []) (fun acc s₃=>wpAny (model X.prog X.w) X.A (newFunctionEnv scope X.env.globals (ZbE scope X.env) [] X.env.qual none .none (some X.env)) (fun cenv s₄ =>
   codeAny (model X.prog X.w) X.A (.compStart (.ListComp elt [⟨tg,iter,ifs,0⟩] scope pos) 0 (.ref it) acc { cenv with scope:=relabel scope X.env }) (RR acc cenv.locals) s₄) E s₃) E s₂:=by
 have sc:=ck.scs x hx
 refine wpAny_newObj_type (wpAny_newFunctionEnv sc.nc (by intro y hy;simp at hy) (fun h₁ hns₁ hsb₁=>?_) sc.kind)
 dsimp only at hns₁ hsb₁ ⊢
 generalize hP2:s₂.heap.push { cls:=.type "list",dict:=none,data:=.seq ([]:List Value).toArray }=P2 at hns₁ hsb₁ ⊢
 have hCs:P2.objs.size=s₂.heap.objs.size+1:=by rw[<- hP2,Heap.size_push]
 have hCle:s₂.heap.objs.size<=P2.objs.size:=by rw[hCs];exact Nat.le_succ _
 have hDC:s₂.heap.objs.size≠P2.objs.size:=by rw[hCs];exact ZtU (ZvA _)
 generalize hCe:P2.objs.size=C at hns₁ hsb₁ hCs hCle hDC ⊢
 generalize hDe:s₂.heap.objs.size=D at hCs hCle hDC ⊢
 have fo:∀b∈fp,∃o,s₂.heap.get? b=some o:=fun b hb=>let ⟨o,e,_⟩:=T.obj _ _ st b hb;⟨o,e⟩
 have flt:∀b∈fp,b<D:=fun b hb=>by obtain⟨o,e⟩:=fo b hb;rw[<- hDe];exact Heap.lt_size e
 have old:∀b o,s₂.heap.get? b=some o->h₁.get? b=some o:=fun b o e=>by
  have hb:=Heap.lt_size e
  exact hsb₁.extBut b o (ZtU (by rw[hCs];exact Zv6 (hDe▸hb))) (Heap.get?_push_of_some _ (hP2▸Heap.get?_push_of_some _ e))
 have hacc:h₁.get? D=some { cls:=.type "list",data:=.seq ([]:List Value).toArray 0 }:=hsb₁.extBut _ _ hDC (Heap.get?_push_of_some _ (hP2▸hDe▸Heap.get?_push_size _ rfl))
 have okB:=ZjL (x:=x) (xs:=xs) (C:=C) I sc (by rw[hDe];exact hCle) ff fo
 have hfreshD:H₂ D=none:=I.hok.fresh (by rw[hDe];exact ZtE _)
 have hfreshC:H₂ C=none:=I.hok.fresh (by rw[hDe];exact hCle)
 have I0:Inv (UA X scope xs C fp s₂ H₂) [(D,{ cls:=.type "list",data:=.seq ([]:List Value).toArray 0 })] (σ++List.replicate xs.length none) H₂ { s₂ with heap:=h₁,toks:=s₂.toks+([]:List (Str×Value)).length }:=by
  refine⟨okB,rfl,I.bare,Un.kept old,⟨_,hns₁,fun i y v e1 e2 e3=>?_⟩,fun y c e=>?_,hfreshC,fun y c e=>I.freeC y c (Jy sc I.ok e),fun p hp=>?_,I.hok.kept old,by simp[UA,I.len]⟩
  ·have hi:i<σ.length:=by
    by_cases hi:i<σ.length
    ·exact hi
    ·rw[ZtJ (by omega)] at e2
     rw[ZuZ] at e2
     split at e2<;>cases e2
   rw[ZtI hi] at e2
   have e1':(X.N.map (Zco xs)++xs)[i]?=some y:=e1
   rw[ZtI (by rw[ZtG,<- I.len];exact hi),ZtT] at e1'
   have lk:scope.names.lookup y=some .local\/scope.names.lookup y=some .free:=by
    have e3':(relabel scope X.env).names.lookup y=some .local\/(relabel scope X.env).names.lookup y=some .cell\/(relabel scope X.env).names.lookup y=some .free:=e3
    rcases e3' with z|z|z
    ·exact .inl ((Z8 sc.nc z).1 rfl)
    ·exact .inr ((Z8 sc.nc z).2 (.inl rfl))
    ·exact .inr ((Z8 sc.nc z).2 (.inr rfl))
   obtain⟨y0,ey0,ey⟩:∃y0,X.N[i]?=some y0/\Zco xs y0=y:=by
    cases q:X.N[i]? with
    |none=>rw[q] at e1';cases e1'
    |some y0=>rw[q] at e1';exact⟨y0,rfl,Option.some.inj e1'⟩
   have hy0:y0 ∉ xs:=fun z=>by
    have:y=Str.ofString "":=by rw[<- ey];unfold Zco;rw[if_pos (Zvl.mpr z)]
    rw[this,ck.noE] at lk
    rcases lk with z|z<;>cases z
   have ey2:y0=y:=by rw[<- ey];unfold Zco;rw[if_neg (fun z=>hy0 (Zvl.mp z))]
   rw[ey2] at ey0 hy0
   have e1':X.N[i]?=some y:=ey0
   have yN:y∈X.N:=ZtA e1'
   have e3':(relabel scope X.env).names.lookup y=some .local\/(relabel scope X.env).names.lookup y=some .cell\/(relabel scope X.env).names.lookup y=some .free:=e3
   have hcf:(relabel scope X.env).names.lookup y=some .cell\/(relabel scope X.env).names.lookup y=some .free:=by
    rcases e3' with z|z
    ·exact absurd ((Z8 sc.nc z).1 rfl) (ck.noN y yN hy0)
    ·exact z
   have hfree:scope.names.lookup y=some .free:=by
    rcases hcf with z|z
    ·exact(Z8 sc.nc z).2 (.inl rfl)
    ·exact(Z8 sc.nc z).2 (.inr rfl)
   obtain⟨c,hcl⟩:=UW (X:=X) hfree
   have hcx:=Jy sc I.ok hcl
   have hvis:=sc.fr _ (PySem.mem_of_lookup hfree) rfl
   obtain⟨m,hn,hl⟩:=I.loc
   obtain⟨u,ru,hlook⟩:=hl i y v e1' e2 (.inr hvis)
   refine⟨u,ru,.inr ⟨hcf,c,hcl, ?_⟩⟩
   rcases hlook with ⟨k,_⟩|⟨k,c',ec,hcell⟩
   ·have k':X.env.scope.names.lookup y=some .local:=k
    have hv':X.env.scope.names.lookup y=some .cell\/X.env.scope.names.lookup y=some .free:=hvis
    rw[k'] at hv'
    rcases hv' with z|z<;>cases z
   ·rw[hcx] at ec;cases ec
    obtain⟨o,ho,hd⟩:=hcell
    exact⟨o,old _ _ ho,hd⟩
  ·obtain⟨v,o,ho,hd⟩:=I.cell y c (Jy sc I.ok e)
   exact⟨v,o,old _ _ ho,hd⟩
  ·have e:p=(D,{ cls:=.type "list",data:=.seq ([]:List Value).toArray 0 }):=by simpa[UA] using hp
   subst e
   exact⟨hacc,hfreshD,hDC,(fun z=>by
    rcases ZtN.mp (I.stkSub D z) with e|e
    ·exact absurd I.lt (by rw[<- e,hDe];exact Zun _)
    ·exact I.nofs (by rw[hDe];exact ZtE _) e),fun v z=>nomatch z⟩
 obtain⟨W,⟨m0,w0⟩,turn⟩:=hw
 have fpB:∀{H':Hp}{o:Obj},(∀b∈fp,H' b=none)->∀b∈fp,Ze1 (UA X scope xs C fp s₂ H₂) [(D,o)] H' b:=fun {H' o} hn b hb=>by
  obtain⟨f0,f1,f2,f3,f4,f5⟩:=ff b hb
  obtain⟨g1,g2⟩:=okB.exf b hb
  exact⟨hn b hb,g1,okB.exfs b hb,.inl hb,g2,fun p hp=>by
   have e:p=(D,o):=by simpa[UA] using hp
   subst e
   exact(ZtU (flt b hb)).symm⟩
 have hσ:σ.length=X.N.length:=I.len
 have loop:∀s₃:Shared,s₃={ s₂ with heap:=h₁,toks:=s₂.toks+([]:List (Str×Value)).length } ->
   codeAny (model X.prog X.w) X.A (.compLoop (.ListComp elt [⟨tg,iter,ifs,0⟩] scope pos) 0 (.ref it) (.ref D) (compEnvC scope (ZbE scope X.env) C X.env)) (RR (.ref D) C) s₃:=by
  rintro s₃ rfl
  refine VR
   (fun n s'=>∃i ys its k σx H',σx.length=xs.length/\Inv (UA X scope xs C fp s₂ H₂) [(D,{ cls:=.type "list",data:=.seq (List.toArray its) k })] (σ++σx) H' s'/\tn i s'.heap/\(∀b∈fp,H' b=none)/\Jb ys its/\W i n ys H') ?_ m0
   ⟨0,[],[],0,List.replicate xs.length none,H₂,by simp,I0,T.keep _ _ _ st (fun b hb o e=>old b o e),fun b hb=>(ff b hb).1,.nil,w0⟩
  rintro n s' ⟨i,ys,its,k,σx,H',hσx,I',st',fr',rv,w'⟩
  obtain⟨hz,hcase⟩:=turn i n ys H' w'
  have hpinD:=I'.pin (D,{ cls:=.type "list",data:=.seq (List.toArray its) k }) (by simp[UA])
  rcases hcase with ⟨stop,q⟩|⟨go,N,hN,step⟩
  ·refine thn (T.done (UA X scope xs C fp s₂ H₂) rfl rfl rfl hc i _ s' _ H' _ I' (fpB fr') st' stop) fun r s4 ⟨hr,I4⟩=>?_
   subst hr
   have pD:=I4.pin (D,{ cls:=.type "list",data:=.seq (List.toArray its) k }) (by simp[UA])
   obtain⟨m4,hn4,_⟩:=I4.loc
   have IX:Inv X pins σ H' s4:=I.call' I4.os I4.base I4.hok I4.bare fun b hb=>by
    obtain⟨f0,f1,f2,f3,f4,f5⟩:=ff b hb
    exact⟨f3,f1,f4,f5⟩
   have IX2:=IX.adopt (D:=D) (ys:=ys) (its:=its) (n:=k) hpinD.2.1 (by rw[<- hDe];exact I.sz) (by rw[<- hDe];exact ZuX I.lt)
    (fun y c e z=>by
     obtain⟨v,o,ho,hd⟩:=I.cell y c e
     have:=Heap.lt_size ho
     rw[hDe,z] at this
     exact Zun _ this)
    (fun p hp z=>by
     have:=Heap.lt_size (I.pin p hp).1
     rw[hDe,z] at this
     exact Zun _ this) pD.1 rv hz
   refine hRR D C s4 _ m4 (by rw[hDe];exact hCle) IX2 hn4 ?_ (q D hpinD.2.1)
   rw[Z1 (Ne.symm hDC)]
   exact I4.free
  ·refine thn (T.item (UA X scope xs C fp s₂ H₂) rfl rfl rfl hc i _ s' _ H' _ I' (fpB fr') st' go) fun r s4 ⟨u,hr,h4⟩=>?_
   subst hr
   refine thn h4 fun _ s5 ⟨y,H5,I5,r5,y5,st5,fr5⟩=>?_
   have I5':=I5.pinned (fpB fr5) (T.obj _ _ st5)
   obtain⟨vs,bd5,stp⟩:=step y H5 y5
   refine thn (hb C s₂ H₂ fp _ s5 σ σx H5 y u vs _ hσ hσx I5' r5 bd5) fun _ s6 I6=>?_
   refine thn (ht C s₂ H₂ fp _ s6 _ H5 _ _ I6 stp) fun ok s6' hok=>?_
   obtain⟨H6',I6',q6'⟩:=hok
   have hvl:=hvs _ _ _ bd5
   have stay:∀{s9:Shared}{H9:Hp}{ys':List V}{its':List Value}{k':Nat},True:=fun {_ _ _ _ _}=>trivial
   cases ok with
   |false =>
    rw[if_neg Bool.false_ne_true] at q6' ⊢
    have pD6:=I6'.pin (D,{ cls:=.type "list",data:=.seq (List.toArray its) k }) (by simp[UA])
    obtain⟨m',hm,w8⟩:=hN _ _ q6'
    refine⟨m',hm,i+1,ys,its,k,vs.map some,H6',by simp[hvl],I6'.pins_of fun p hp=>?_, ?_,fun b hb'=>?_,rv,w8⟩
    ·have e:p=(D,{ cls:=.type "list",data:=.seq (List.toArray its) k }):=by simpa using hp
     subst e
     exact⟨pD6.1,pD6.2.1,pD6.2.2.1,pD6.2.2.2.1,fun v z=>nomatch z⟩
    ·refine T.keep _ _ _ st5 fun b hb' o e=>?_
     exact(I6'.pin (b,o) (ZtB _ (ZtB _ (Ju hb' e)))).1
    ·obtain⟨o,e,d⟩:=T.obj _ _ st5 b hb'
     exact(I6'.pin (b,o) (ZtB _ (ZtB _ (Ju hb' e)))).2.1
   |true =>
   rw[if_pos rfl] at q6' ⊢
   refine wpAny_mono (he C s₂ H₂ fp _ s6' _ H6' _ I6' q6') (fun u7 s7 h7=>?_) fun _ _ f=>f.elim
   obtain⟨v7,H7,I7,r7,n7⟩:=h7
   have pD7:=I7.pin (D,{ cls:=.type "list",data:=.seq (List.toArray its) k }) (by simp[UA])
   have hlen:=rv.length
   refine append_at (hsz:=by show its.toArray.size<=sizeLine;rw[ZtL,<- hlen];exact hz) pD7.1 fun h8 hs8 hD8=>?_
   obtain⟨m',hm,w8⟩:=hN _ _ n7
   have hD8':h8.get? D=some { cls:=.type "list",data:=.seq (its++[u7]).toArray (k+1) }:=by rw[hD8,List.push_toArray]
   have I8:Inv (UA X scope xs C fp s₂ H₂) [] (σ++vs.map some) H7 { s7 with heap:=h8 }:=by
    refine(I7.pins_of (pins':=[]) fun p hp=>absurd hp (by simp)).turned (t':=s7.toks) (it:=D) (fun b o hb e=>(hs8.2 b hb).trans e) pD7.2.1 pD7.2.2.1 (.inr (by show s₂.heap.objs.size<=D;rw[hDe];exact ZtE _)) (fun y' c' e' z=>?_) fun p hp=>absurd (show p∈([]:List (Addr×Obj)) from by simpa[UA] using hp) (by simp)
    obtain⟨v,o,ho,hd⟩:=I.cell y' c' (Jy sc I.ok e')
    have:=Heap.lt_size ho
    rw[hDe,z] at this
    exact Zun _ this
   refine⟨m',hm,i+1,ys++[v7],its++[u7],k+1,vs.map some,H7,by simp[hvl],I8.pins_of fun p hp=>?_, ?_,fun b hb'=>?_,rv.append (.cons r7 .nil),w8⟩
   ·have e:p=(D,{ cls:=.type "list",data:=.seq (its++[u7]).toArray (k+1) }):=by simpa using hp
    subst e
    exact⟨hD8',pD7.2.1,pD7.2.2.1,pD7.2.2.2.1,fun v z=>nomatch z⟩
   ·refine T.keep _ _ _ st5 fun b hb' o e=>?_
    have hpb:=I7.pin (b,o) (ZtB _ (ZtB _ (Ju hb' e)))
    exact(hs8.2 b (ZtU (flt b hb'))).trans hpb.1
   ·obtain⟨o,e,d⟩:=T.obj _ _ st5 b hb'
    exact(I7.pin (b,o) (ZtB _ (ZtB _ (Ju hb' e)))).2.1
 exact codeAny_compStart_list (loop _ rfl) (T.self _ 0 _ _ _ (T.keep _ _ _ st fun b hb o e=>old b o e) (loop _ rfl))
theorem ZeY {c:Expr} (hx:∀e s,X.xe e s->False) (h:PT X c tt):PCi X [c] tt:=fun pins s σ H Q E I q =>
 wpAny_tests_one (wpAny_mono (h pins s σ H Q I q) (fun _ _ z=>z) fun e s z=>(hx e s z).elim)
theorem Ql {px:Pos} (hNd:X.N.Nodup) (hchk:Us X.N X.env.scope scope [x]=true:=by rfl):PB X scope [x] (.Name x px) tB1:=by
 intro C s₂ H₂ ex pins s σ σx H y u vs E hσ hσx I r hb
 have ck:=VQ hchk
 have sc:=ck.scs x (by simp)
 have hb:vs=[y]:=hb
 subst hb
 have ndB:=ck.nd
 refine wpAny_assign_Name ?_
 refine UO (X:=UA X scope [x] C ex s₂ H₂) (i:=X.N.length) (x:=x) (v:=y) I ndB (by simp[UA]) (.inl (lookup_relabel_local sc.var)) r (fun s6 I6=>?_) (.inr (lookup_relabel_local sc.var))
 obtain⟨o,rfl⟩:∃o,σx=[o]:=by
  cases σx with
  |nil=>simp at hσx
  |cons a l =>
   cases l with
   |nil=>exact⟨a,rfl⟩
   |cons b l=>simp at hσx
 have eσ:(σ++[o]).set X.N.length (some y)=σ++[some y]:=by
  rw[<- hσ];simp
 rw[eσ] at I6
 exact I6
theorem Zav {wi:TI} (hi:PI X tg iter wi) (hb:PB X scope xs tg Bd) (ht:∀C s₂ H₂ ex,PCi (UA X scope xs C ex s₂ H₂) ifs tt) (he:∀C s₂ H₂ ex,PE (UA X scope xs C ex s₂ H₂) elt te) (hvs:∀x H vs,Bd x H vs->vs.length=xs.length) (hNd:X.N.Nodup) (hc:X.calm=true)
  (hclos:closureFor scope X.env=pure (ZbE scope X.env):=by rfl) (hchk:Us X.N X.env.scope scope xs=true:=by rfl) (hs:∀x,foldedSetIterable iter X.env x=pure x:=by exact fun _=>rfl) :
  PE X (.ListComp elt [⟨tg,iter,ifs,0⟩] scope pos) (ZcQ wi Bd tt te):=by
 intro pins s σ H Q I h
 have ck:=VQ hchk
 obtain⟨x,hx⟩:=ck.ex
 have sc:=ck.scs x hx
 rw[eval_ListComp]
 refine wpAny_comprehension_free (use:=none) rfl hs hclos sc.kind sc.locs (thn (hi pins s σ H _ I h) fun xv s₁ h₁=>thn h₁ fun itv s₂ h₂=>?_)
 obtain⟨it,fp,tn,J,H2,e,I2,T,st2,f2,q⟩:=h₂
 subst e
 refine ZbD (RR:=fun acc C=>compPost (model X.prog X.w) X.A X.xe none (EP X pins σ Q) acc C) I2 ck hx hNd hc T st2 f2 q hb ht he hvs ?_
 intro D C s' H' m' hC I' hn hC0 hq
 refine⟨m',hn,fun h'' hs''=>⟨.ref D,H', ?_,rfl,hq⟩⟩
 refine I'.turned (t':=s'.toks) (it:=C) (fun b o hb e=>(hs''.2 b hb).trans e) hC0 (ZuX (ZtM I2.lt hC)) (.inr (ZtV I2.sz hC)) (fun y c e z=>?_) fun p hp z=>?_
 ·obtain⟨v,o,ho,hd⟩:=I2.cell y c e
  exact absurd (Heap.lt_size ho) (Zvg.mpr (by rw[z];exact hC))
 ·exact absurd (Heap.lt_size (I2.pin p hp).1) (Zvg.mpr (by rw[z];exact hC))
noncomputable def ZaX (i:Nat) (wi:TI) (Bd:TB) (tt:TT) (te:TE):TS:=fun D σ H=>ZcQ wi Bd tt te σ H fun v H'=>D.nx (σ.set i (some v)) H'
theorem Qh {i:Nat}{y:Str}{py spos:Pos}{wi:TI} (hN:X.N.Nodup) (hi:X.N[i]?=some y) (hit:PI X tg iter wi) (hb:PB X scope xs tg Bd) (ht:∀C s₂ H₂ ex,PCi (UA X scope xs C ex s₂ H₂) ifs tt) (he:∀C s₂ H₂ ex,PE (UA X scope xs C ex s₂ H₂) elt te) (hvs:∀x H vs,Bd x H vs->vs.length=xs.length) (hc:X.calm=true)
  (hsw:swapsWith (.ListComp elt [⟨tg,iter,ifs,0⟩] scope pos) (some (.Name y py)) spos.line X.env=pure true:=by rfl) (hy:X.env.scope.names.lookup y=some .local:=by rfl)
  (hclos:closureFor scope X.env=pure (ZbE scope X.env):=by rfl) (hchk:Us X.N X.env.scope scope xs=true:=by rfl) (hs:∀x,foldedSetIterable iter X.env x=pure x:=by exact fun _=>rfl) :
  PS X (.Assign [.Name y py] (.ListComp elt [⟨tg,iter,ifs,0⟩] scope pos) spos) (ZaX i wi Bd tt te):=by
 intro pins s σ H D0 I h
 have ck:=VQ hchk
 obtain⟨x,hx⟩:=ck.ex
 have sc:=ck.scs x hx
 rw[exec_Assign_Name_used _ _ _ _ hsw]
 refine wpAny_bind (wpAny_standAt (wpAny_bind ?_))
 show wpAny _ X.A (do let _ <- comprehension (.ListComp elt [⟨tg,iter,ifs,0⟩] scope pos) scope X.env _ (newList []) false (eval iter X.env) (some (assign (.Name y py) X.env))) _ _ s
 refine wpAny_bind (wpAny_mono (wpAny_comprehension_free (use:=some (assign (.Name y py) X.env)) (Q:=fun _ s'=>SP X pins D0 .next s') rfl hs hclos sc.kind sc.locs
  (thn (hit pins s σ H _ I h) fun xv s₁ h₁=>thn h₁ fun itv s₂ h₂=>?_)) (fun _ s' hq=>wpAny_pure (wpAny_pure hq)) fun _ _ e=>e)
 obtain⟨it,fp,tn,J,H2,e,I2,T,st2,f2,q⟩:=h₂
 subst e
 refine ZbD (RR:=fun acc C=>compPost (model X.prog X.w) X.A X.xe (some (assign (.Name y py) X.env)) (fun _ s'=>SP X pins D0 .next s') acc C) I2 ck hx hN hc T st2 f2 q hb ht he hvs ?_
 intro D C s' H' m' hC I' hn hC0 hq
 show wpAny _ X.A (assign (.Name y py) X.env (.ref D)) _ _ _
 have cellC:∀y c,X.env.cells.lookup y=some c->c≠C:=fun y c e z=>by
  obtain⟨v,o,ho,hd⟩:=I2.cell y c e
  exact absurd (Heap.lt_size ho) (Zvg.mpr (by rw[z];exact hC))
 have locC:C≠X.env.locals:=ZuX (ZtM I2.lt hC)
 refine wpAny_assign_Name (Qe (i:=i) (v:=.ref D) I' hN hi (.inl hy) rfl (fun s'' I'' ⟨a,hsa,ha⟩=>?_) (.inr hy))
 have hCa:C≠a:=by
  rcases ha with z|z
  ·rw[z];exact locC
  ·exact(cellC _ _ z).symm
 refine⟨m',hn.sameBut hsa hCa,fun h'' hs''=>⟨σ.set i (some (.ref D)),H', ?_,hq⟩⟩
 refine I''.turned (t':=s''.toks) (it:=C) (fun b o hb e=>(hs''.2 b hb).trans e) hC0 locC (.inr (ZtV I2.sz hC)) cellC fun p hp z=>?_
 exact absurd (Heap.lt_size (I2.pin p hp).1) (Zvg.mpr (by rw[z];exact hC))
end
noncomputable def ZgD {α β:Type} (f:α->Rr (Option β)):List α->Rr (List β)
 |[]=>.ok []
 |x::xs=>(f x).bind fun o=>(ZgD f xs).bind fun ys=>.ok (o.toList++ys)
def DB (K:W.Frag) (Bd:TB) (k:Nat) (hb:PV->Rr (List PV)):Prop:=(∀x e,hb x≠.exc e)/\∀(H:Hp) (S:Addr->Prop) (x:PV) (v:V) (xs:List PV),Rep K H S x v->hb x=.ok xs->xs.length=k/\∃vs,Bd v H vs/\Reps K H S xs vs
theorem Zlx {K:W.Frag}:DB K tB1 1 (fun x=>.ok [x]):=⟨fun x e h=>(by cases h),fun H S x v xs r h=>by
 cases h
 exact⟨rfl,[v],rfl,v,[],rfl,r,rfl⟩⟩
section
variable {K:W.Frag}{B:Addr->Prop}{EX:PX->Hp->Prop}{H0 H H':Hp}{σ:St}{Γ Γ' Γ1 Γ2:List Md}{ρ:List PV}{F:Nat->List Addr}{R:List Addr}{k:Nat}{x:PV}{v:V}{te:TE}{tt:TT}{f fe:List PV->Rr PV}{c:List PV->Rr Bool}{Bd:TB}{hb:PV->Rr (List PV)}
theorem Ziz:DT K EX Γ Γ Zm0 (fun _=>.ok true):=fun B H0 H σ ρ F R Q A d=>d H F (Z7.refl H) (fun _ _ h=>h) A
theorem Ag.pushN:∀{xs:List PV}{vs:List V}{σ:St}{Γ:List Md}{ρ:List PV},Reps K H (NO B F R) xs vs->Ag K B H0 H σ Γ ρ F R->Ag K B H0 H (σ++vs.map some) (Γ++List.replicate xs.length .S) (ρ++xs) F R
 |[],vs,σ,Γ,ρ,h,A=>by
  have h:vs=[]:=h
  subst h
  simpa using A
 |x::xs,vs,σ,Γ,ρ,h,A=>by
  obtain⟨v,r,rfl,h1,h2⟩:=h
  have:=Ag.pushN (xs:=xs) (vs:=r) h2 (A.push h1)
  simpa[List.replicate_succ] using this
theorem Ag.popN {n:Nat}{τ:St}{xs:List PV} (A:Ag K B H0 H (σ++τ) (Γ++List.replicate n .S) (ρ++xs) F R) (l1:σ.length=Γ.length) (l2:ρ.length=Γ.length):Ag K B H0 H σ Γ ρ F R:=by
 refine⟨A.same,A.own,A.young,A.youngR,A.live,A.liveR,A.disj,A.disjR,l1,l2,fun i=>?_⟩
 have:=A.slot i
 by_cases h1:i<Γ.length
 ·rw[Zt8,Zt8,ZtI h1,ZtI (by rw[l2];exact h1),ZtI (by rw[l1];exact h1),<- Zt8,<- Zt8] at this
  exact this
 ·rw[Zt8,Zuk (by omega)]
  by_cases h2:i<Γ.length+n
  ·rw[Zt8,ZtJ (by omega),ZuZ,if_pos (by omega)] at this
   simp only[ZuT] at this
   exact this.1
  ·exact A.outF (by simp;omega)
theorem Uo {wi:TI}{fi:List PV->Rr (List PV)} (hi:DIc K EX Γ Γ1 wi fi) (hB:DB K Bd k hb) (ht:DT K EX (Γ1++List.replicate k .S) (Γ1++List.replicate k .S) tt c) (he:DE K EX (Γ1++List.replicate k .S) (Γ1++List.replicate k .S) .F te fe) :
  DE K EX Γ Γ1 .F (ZcQ wi Bd tt te) (fun ρ=>(fi ρ).bind fun xs=>(lenM xs).bind fun _=>(ZgD (fun x=>(hb x).bind fun as=>(c (ρ++as)).bind fun b=>if b=true then (fe (ρ++as)).bind fun y=>.ok (some y) else .ok none) xs).bind fun ys=>.ok (.lst ys)):=fun B H0 H σ ρ F R Q A d=>by
 refine hi B H0 H σ ρ F R _ A (d.bind.imp (fun xs _ d J H1 F1 s1 f1 A1 it=>?_) fun e q=>q)
 obtain⟨hlen,d⟩:=Dn.lenM d.bind
 generalize hgx:(fun x=>(hb x).bind fun as=>(c (ρ++as)).bind fun b=>if b=true then (fe (ρ++as)).bind fun y=>Rr.ok (some y) else .ok none)=gx at d
 have l1:=A1.lenS
 have l2:=A1.lenR
 refine⟨fun i m ys H2=>∃zs G F2,m=xs.length-i/\i<=xs.length/\ys.length<=i/\Z7 H1 H2/\Trees K H2 zs ys G/\(∀a∈G,a ∉ R/\(H1 a=none\/∃j,a∈F1 j))/\(∀i,∀a∈F2 i,a∈F1 i)/\Ag K B H0 H2 σ Γ1 ρ F2 (G++R) /\
  Dn ((ZgD gx (xs.drop i)).bind fun ys'=>.ok (.lst (zs++ys'))) (fun x=>∀v H',Z7 H H'->Res K B H0 H σ Γ1 ρ F R .F x v H'->Q v H') (fun e=>∀H',Z7 H0 H'->EX e H'),
  ⟨xs.length,[],[],F1,by simp,Zub _,ZtE _,Z7.refl _,⟨rfl,rfl⟩,by simp,fun _ _ h=>h,A1,by simpa using d⟩, ?_⟩
 rintro i m ys H2 ⟨zs,G,F2,rfl,hi',hl,s2,tr,o2,f2,A2,dn⟩
 refine⟨Ug (by omega), ?_⟩
 have itp:=it H2 F2 s2 f2 i
 cases hx:xs[i]? with
 |none =>
  refine .inl ⟨itp.2 hx,fun p hp=>?_⟩
  have hd:xs.drop i=[]:=Zu8 (Zux.mp hx)
  rw[hd] at dn
  have dn':∀v H',Z7 H H'->Res K B H0 H σ Γ1 ρ F R .F (.lst (zs++[])) v H'->Q v H':=dn
  rw[Zu9] at dn'
  exact dn' _ _ ((s1.trans s2).trans (Z7.new hp)) (Res.newF (s1.trans s2) (fun i a h=>f1 i a (f2 i a h)) tr (fun a ha=>⟨(o2 a ha).1,(o2 a ha).2.elim (fun z=>.inl (s1.free z)) fun⟨j,z⟩=>.inr ⟨j,f1 j a z⟩⟩) A2 hp)
 |some x =>
  have hlt:i<xs.length:=(ZtC.mp hx).1
  obtain⟨go,yl⟩:=itp.1 x hx
  have hdx:xs.drop i=x::xs.drop (i+1):=by
   rw[ZtS hlt]
   rw[Zt9 hlt] at hx;cases hx;rfl
  rw[hdx] at dn
  simp only[ZgD,Rr.assoc] at dn
  rw[<- hgx] at dn
  simp only[Rr.assoc] at dn
  rw[hgx] at dn
  refine .inr ⟨go,fun ys' H'=>∃zs G F2,ys'.length<=i+1/\Z7 H1 H'/\Trees K H' zs ys' G/\(∀a∈G,a ∉ R/\(H1 a=none\/∃j,a∈F1 j))/\(∀i,∀a∈F2 i,a∈F1 i)/\Ag K B H0 H' σ Γ1 ρ F2 (G++R) /\
   Dn ((ZgD gx (xs.drop (i+1))).bind fun ys'=>.ok (.lst (zs++ys'))) (fun x=>∀v H',Z7 H H'->Res K B H0 H σ Γ1 ρ F R .F x v H'->Q v H') (fun e=>∀H',Z7 H0 H'->EX e H'),
   fun ys' H' ⟨zs,G,F2,a1,a2,a3,a4,a5,a6,a7⟩=>⟨xs.length-(i+1),by omega,zs,G,F2,rfl,hlt,a1,a2,a3,a4,a5,a6,a7⟩,fun v H3 y=>?_⟩
  obtain⟨s3,rx⟩:=yl v H3 y
  have rx':Rep K H3 (NO B F2 (G++R)) x v:=Rep.mono (fun a us s r=>⟨r,s.1.1,fun z=>by
   rcases ZtD.mp z with z|z
   ·rcases (o2 a z).2 with q|⟨j,q⟩
    ·exact s.2.1 q
    ·exact s.2.2 j q
   ·exact s.1.2.1 z,s.1.2.2⟩) (fun a us r=>r) rx
  cases hbx:hb x with
  |exc e=>exact absurd hbx (hB.1 x e)
  |bad=>rw[hbx] at dn;exact dn.elim
  |ok as =>
   rw[hbx] at dn
   simp only[Rr.bind_ok] at dn
   obtain⟨hk,vs,bd,ra⟩:=hB.2 H3 _ x v as rx' hbx
   refine⟨vs,bd, ?_⟩
   have A3:=Ag.pushN ra (A2.grow s3)
   rw[hk] at A3
   refine ht B H0 H3 _ _ F2 (G++R) _ A3 (dn.bind.imp (fun b _ dn H4 F4 s4 f4 A4=>?_) fun e q=>q)
   cases b with
   |false =>
    rw[if_neg Bool.false_ne_true] at dn ⊢
    simp only[Rr.bind_ok,Option.toList] at dn
    refine⟨zs,G,F4,by omega,(s2.trans s3).trans s4,(tr.same s3).same s4,o2,fun i a h=>f2 i a (f4 i a h),A4.popN l1 l2, ?_⟩
    simp only[Rr.assoc,Rr.bind_ok,ZuC] at dn
    exact dn
   |true =>
    rw[if_pos rfl] at dn ⊢
    simp only[Rr.assoc] at dn
    refine he B H0 H4 _ _ F4 (G++R) _ A4 (dn.bind.imp (fun z _ dn w H5 s5 r5=>?_) fun e q=>q)
    obtain⟨F5,f5,G5,t5,o5,A5⟩:=r5
    refine⟨zs++[z],G++G5,F5,by simp;omega,((s2.trans s3).trans s4).trans s5,Trees.append (((tr.same s3).same s4).same s5) (Trees.one t5) (fun a ha z=>(o5 a z).1 (ZtF _ ha)),fun a ha=>?_,fun i a h=>f2 i a (f4 i a (f5 i a h)),(A5.popN l1 l2).less fun a ha=>?_, ?_⟩
    ·rcases ZtD.mp ha with z|z
     ·exact o2 a z
     ·refine⟨fun q=>(o5 a z).1 (ZtB _ q), ?_⟩
      rcases (o5 a z).2 with q|⟨j,q⟩
      ·exact .inl (((s2.trans s3).trans s4).free q)
      ·exact .inr ⟨j,f2 j a (f4 j a q)⟩
    ·simp only[ZtD] at ha ⊢
     rcases ha with (z|z)|z
     ·exact .inr (.inl z)
     ·exact .inl z
     ·exact .inr (.inr z)
    ·simp only[Rr.assoc,Rr.bind_ok,Option.toList,ZtK,Zvk] at dn ⊢
     exact dn
theorem Q5 {EX:PX->Hp->Prop}{kd:Kd}{i:Nat}{wi:TI} (he:DE K EX Γ Γ' .F (ZcQ wi Bd tt te) f) (hi:i<Γ'.length):DS K EX Γ ⟨Γ'.set i .O,Γ1,Γ2,kd⟩ (ZaX i wi Bd tt te) (fun ρ=>(f ρ).thenS fun x=>.next (ρ.set i x)):=ZM he hi
end
theorem hv1 {n:Str}:∀(x:V) (H:Hp) (vs:List V),tB1 x H vs->vs.length=[n].length:=fun _ _ _ h=>congrArg List.length h
section
end
theorem Uc {xs:List PV}{y:PV} (h:xs.length<1000000):pApp (.lst xs) y=.ok (.lst (xs++[y])):=if_pos h
theorem Zme:ZkA (.int 10) (.int 62)=.ok (.int (10^62)):=by rw[Zce (by decide)];rfl
theorem Zmf:ZkA (.int 10) (.int 61)=.ok (.int (10^61)):=by rw[Zce (by decide)];rfl
theorem Zhj {i j:Int}:Zhk [.int i,.int j]=.ok (.int (if j>i then j else i)):=rfl
theorem Zmv {a b:PV}:asT 2 (.tup [a,b])=.ok [a,b]:=rfl
noncomputable def ZmS:Nat:=4000000
def ZlB (i j:Int):Prop:=i.natAbs<2^ZmS/\j.natAbs<2^ZmS
noncomputable instance (i j:Int):Decidable (ZlB i j):=by unfold ZlB;infer_instance
end L2
namespace Att
open PySem PySem.W PySem.Calls PyProof.Rows
end Att
namespace L2
open PySem PySem.Spec PyProof.Rows
section
end
noncomputable def okE (x:PV):Bool:=x.noX&&x.dat.canLay0&&decide (x.dat.depth<=60)
noncomputable def ZlE (K:W.Frag) (g:Bool->Bool):R2:=fun x y H Q=>∃p qs a vs,Rep K H (fun _=>True) p x/\y=.ref a/\(SqL K H a vs\/SqT K H a vs)/\Reps K H (fun _=>True) qs vs/\okE p=true/\(qs.all okE)=true/\Q (.bl (g (qs.any fun q=>PyData.eqv q.dat p.dat))) H
open Classical in
noncomputable def Zen (h:Heap) (dx:PyData) (y:Value):Bool:=if hy:∃d as,Reads h y d as/\d.canLay0=true/\d.depth<=60 then PyData.eqv hy.choose dx else false
section
variable {X:Cx}{K:W.Frag}
theorem Zb5 {H:Hp}{pins:List (Addr×Obj)}{σ:St}{s:Shared}{S:Addr->Prop} (I:Inv X pins σ H s) (dx:PyData):∀{qs:List PV}{vs:List V}{us:List Value},Reps X.K H S qs vs->Jb vs us->(qs.all okE)=true ->
  (us.any (Zen s.heap dx)=qs.any fun q=>PyData.eqv q.dat dx)/\∀y∈us,∃d as,Reads s.heap y d as/\d.canLay0=true/\d.depth<=60
 |[],_,us,h,r,_=>by
  rw[h] at r;cases r
  exact⟨rfl,by simp⟩
 |q::qs,_,us,h,r,hk=>by
  obtain⟨v,vs,rfl,h1,h2⟩:=h
  simp only[List.all_cons,Bool.and_eq_true] at hk
  cases r with
  |cons r1 r2 =>
   rename_i u us
   obtain⟨e1,e2⟩:=Zb5 I dx h2 r2 hk.2
   have h3:=hk.1
   simp only[okE,Bool.and_eq_true,decide_eq_true_eq] at h3
   obtain⟨as,ra⟩:=h1.reads I h3.1.1 r1
   have hx:∃d as,Reads s.heap u d as/\d.canLay0=true/\d.depth<=60:=⟨_,_,ra,h3.1.2,h3.2⟩
   refine⟨?_,fun y hy=>?_⟩
   ·have:Zen s.heap dx u=PyData.eqv q.dat dx:=by
     unfold Zen
     rw[dif_pos hx]
     obtain⟨as',ra',c1,c2⟩:=hx.choose_spec
     rw[SeqAt.Reads.unique _ _ _ _ _ c1 ra' ra]
    rw[ZuH,ZuH,e1,this]
   ·rcases ZtN.mp hy with rfl|hy
    ·exact hx
    ·exact e2 y hy
theorem Zix {H:Hp}{pins:List (Addr×Obj)}{σ:St}{s:Shared}{g:Bool->Bool}{x y:V}{v u:Value}{Q:VK} (I:Inv X pins σ H s) (hu:X.A.units+64<cLine) (rx:Jt x v) (ry:Jt y u) (h:ZlE X.K g x y H Q) :
  ∃a items,u=.ref a/\(s.heap.IsList a items\/s.heap.IsTuple a items)/\∃e:Value->Bool,(∀y,y∈items->SeqAt.EqAt X.A.in1 s y v (e y))/\Q (.bl (g (items.any e))) H:=by
 obtain⟨p,qs,a,vs,h1,rfl,hq,hr,h3,h4,q⟩:=h
 cases ry
 simp only[okE,Bool.and_eq_true,decide_eq_true_eq] at h3
 obtain⟨as,ra⟩:=h1.reads I h3.1.1 rx
 have fin:∀its:List Value,Jb vs its->(∀y,y∈its.toArray->SeqAt.EqAt X.A.in1 s y v (Zen s.heap p.dat y))/\Q (.bl (g (its.toArray.any (Zen s.heap p.dat)))) H:=fun its rv=>by
  obtain⟨e1,e2⟩:=Zb5 I p.dat hr rv h4
  refine⟨fun y hy=>?_, ?_⟩
  ·have hx:=e2 y (by simpa using hy)
   unfold Zen
   rw[dif_pos hx]
   obtain⟨as',ra',c1,c2⟩:=hx.choose_spec
   refine SeqAt.eqAt_reads _ _ _ _ _ _ _ _ ra' ra c1 h3.1.2 ?_
   have:=Zvt hx.choose.depth p.dat.depth
   have hin:X.A.in1.units<=X.A.units+1:=by simp[Around.in1]
   omega
  ·rw[List.any_toArray,e1];exact q
 rcases hq with hq|hq
 ·obtain⟨its,rv,pl,hz⟩:=I.list hq
  obtain⟨f1,f2⟩:=fin its rv
  exact⟨a,its.toArray,rfl,.inl pl.isList,_,f1,f2⟩
 ·obtain⟨its,rv,pl,hz⟩:=I.tuple hq
  obtain⟨f1,f2⟩:=fin its rv
  exact⟨a,its.toArray,rfl,.inr pl,_,f1,f2⟩
theorem Zin (hu:X.A.units+64<cLine) (e:X.K=K:=by rfl):OpR X (compareOp .In) (ZlE K id):=by
 subst e
 intro pins s σ H x y v u Q I rx ry h
 obtain⟨a,items,rfl,hl,e,he,q⟩:=Zix I hu rx ry h
 rcases hl with hl|hl
 ·exact SeqAt.in_listAt e hl he ⟨.bl _,H,I,rfl,q⟩
 ·exact SeqAt.in_tupleAt e hl he ⟨.bl _,H,I,rfl,q⟩
theorem Qu (hu:X.A.units+64<cLine) (e:X.K=K:=by rfl):OpR X (compareOp .NotIn) (ZlE K (!·)):=by
 subst e
 intro pins s σ H x y v u Q I rx ry h
 obtain⟨a,items,rfl,hl,e,he,q⟩:=Zix I hu rx ry h
 rcases hl with hl|hl
 ·exact SeqAt.notIn_listAt e hl he ⟨.bl _,H,I,rfl,q⟩
 ·exact SeqAt.notIn_tupleAt e hl he ⟨.bl _,H,I,rfl,q⟩
end
noncomputable def Zhm (g:Bool->Bool) (x y:PV):Rr PV:=match y with
 |.lst ys=>if (okE x&&ys.all okE)=true then .ok (.bl (g (ys.any fun q=>PyData.eqv q.dat x.dat))) else .bad
 |.tup ys=>if (okE x&&ys.all okE)=true then .ok (.bl (g (ys.any fun q=>PyData.eqv q.dat x.dat))) else .bad
 |_=>.bad
section
variable {K:W.Frag}{EX:PX->Hp->Prop}{Γ Γ1 Γ2:List Md}{tb tc:TE}{fb fc:List PV->Rr PV}
theorem ZbA {g:Bool->Bool} (ha:DE K EX Γ Γ1 .A tb fb) (hb:DE K EX Γ1 Γ2 .A tc fc):DE K EX Γ Γ2 .P (tOp (ZlE K g) tb tc) (fun ρ=>(fb ρ).bind fun x=>(fc ρ).bind fun y=>Zhm g x y):=by
 refine ZfZ (fun {H x y v w Q} rx ry ⟨z,e,q⟩=>?_) (fun x y z h=>?_) (fun x y e h=>?_) ha hb
 ·unfold Zhm at e
  split at e
  ·split at e
   ·rename_i ys hk
    cases e
    rw[Bool.and_eq_true] at hk
    obtain⟨a,vs,rfl,hn,hr⟩:=ry
    exact⟨x,_,a,vs,rx,rfl,.inl (Vr (S:=fun _=>True) hn),hr,hk.1,hk.2,q rfl _ rfl⟩
   ·cases e
  ·split at e
   ·rename_i ys hk
    cases e
    rw[Bool.and_eq_true] at hk
    obtain⟨a,vs,rfl,hn,hr⟩:=ry
    exact⟨x,_,a,vs,rx,rfl,.inr hn.sqT,hr,hk.1,hk.2,q rfl _ rfl⟩
   ·cases e
  ·cases e
 ·unfold Zhm at h
  split at h
  ·split at h<;>cases h;rfl
  ·split at h<;>cases h;rfl
  ·cases h
 ·unfold Zhm at h
  split at h
  ·split at h<;>cases h
  ·split at h<;>cases h
  ·cases h
end
section
end
theorem Zjb {X:Cx}{K:W.Frag}{tg l:Expr}{tl:TE} (hl:PE X l tl) (e:X.K=K:=by rfl):PI X tg l (Zmk K tl):=by subst e;exact Zk3 hl
noncomputable def ZmO (x:PV):Rr (List PV):=match x with
 |.tup xs=>.ok xs
 |_=>.bad
section
variable {K:W.Frag}{H:Hp}{EX:PX->Hp->Prop}{Γ Γ':List Md}{te:TE}{f:List PV->Rr PV}
theorem Zjz {a:Addr}{xs:List PV}{S:Addr->Prop} (h:Rep K H S (.tup xs) (.ref a)):ItP K S (Itt K a) xs H:=by
 obtain⟨a',vs,e,hn,hr⟩:=h
 cases e
 intro i
 constructor
 ·intro x hx
  obtain⟨u,e1,e2⟩:=hr.get hx
  refine⟨⟨vs,u,hn.sqT,e1⟩,fun v H' ⟨e,y⟩=>?_⟩
  subst e
  have:=y vs hn.sqT
  rw[e1] at this;cases this
  exact⟨Z7.refl _,e2⟩
 ·intro hx
  exact⟨vs,hn.sqT,by rw[hr.length];exact Zux.mp hx⟩
theorem Zlq (he:DE K EX Γ Γ' .Z te f):DI K EX Γ Γ' (Zmk K te) (fun ρ=>(f ρ).bind ZmO):=fun B H0 H σ ρ F R Q A d=>by
 refine he B H0 H σ ρ F R _ A (d.bind.imp (fun x _ d v H1 s1 r1=>?_) fun e q=>q)
 obtain⟨F1,f1,p1,A1⟩:=r1
 cases x with
 |tup xs =>
  obtain⟨a,vs,rfl,hn,hr⟩:=id p1
  exact⟨a,rfl,⟨vs,hn.sqT⟩,d _ H1 F1 s1 f1 A1 fun H2 F2 h=>Zjz (p1.frm h A1)⟩
 |_=>exact d.elim
end
noncomputable def Zdj (p q:Int->Int->Bool) (x y:PV) (r:Rr PV):Rr PV:=match x,y with
 |.int i,.int j=>if p i j=true then r.bind fun z=>oI (fun _ _=>true) (fun i j=>.bl (q i j)) (.int j) z else .ok (.bl false)
 |_,_=>.bad
theorem Zfr {p q:Int->Int->Bool}{i j k:Int}:Zdj p q (.int i) (.int j) (.ok (.int k))=.ok (.bl (p i j&&q j k)):=by
 simp only[Zdj,Rr.bind_ok,oI,if_true]
 cases p i j<;>simp
section
variable {K:W.Frag}{B:Addr->Prop}{EX:PX->Hp->Prop}{H0 H H':Hp}{σ:St}{Γ Γ1 Γ2:List Md}{ρ:List PV}{F F':Nat->List Addr}{R:List Addr}{k:Nat}{x:PV}{v:V}{ta tb tc:TE}{fa fb fc:List PV->Rr PV}{hb:PV->Rr (List PV)}
theorem ZhK {p q:Int->Int->Bool} (ha:DE K EX Γ Γ1 .A ta fa) (hb:DE K EX Γ1 Γ2 .A tb fb) (hc:DE K EX Γ2 Γ2 .A tc fc) :
  DE K EX Γ Γ2 .P (ZhX (rI0 fun i j=>.bl (p i j)) (rI0 fun i j=>.bl (q i j)) ta tb tc) (fun ρ=>(fa ρ).bind fun x=>(fb ρ).bind fun y=>Zdj p q x y (fc ρ)):=fun B H0 H σ ρ F R Q A d=>by
 refine two (Q:=fun v w H2=>(rI0 fun i j=>.bl (p i j)) v w H2 fun z H3=>∃k,z=.bl k/\(if k=true then tc σ H3 fun w' H4=>(rI0 fun i j=>.bl (q i j)) w w' H4 Q else Q (.bl false) H3)) ha hb A d.bind2 fun x y v w H' F' d s hF p1 p2 A'=>?_
 cases x<;>cases y<;>first|exact d.elim|skip
 rename_i i j
 cases p1;cases p2
 refine⟨i,j,rfl,rfl,_,rfl, ?_⟩
 simp only[Zdj] at d
 by_cases h:p i j=true
 ·rw[if_pos h] at d ⊢
  refine hc B H0 H' σ ρ F' R _ A' (d.bind.imp (fun z _ d u H3 s3 r3=>?_) fun e q=>q)
  obtain⟨F3,f3,p3,A3⟩:=r3
  cases z<;>first|exact d.elim|skip
  cases p3
  exact⟨j,_,rfl,rfl,d _ H3 (s.trans s3) ⟨F3,fun i a h=>hF i a (f3 i a h),rfl,rfl,A3⟩⟩
 ·rw[if_neg h] at d ⊢
  exact d _ H' s ⟨F',hF,rfl,rfl,A'⟩
end
theorem Zaw {xs:List PV}:ZgB [.lst xs]=.ok (.int xs.length):=by simp[ZgB]
theorem Zjh {xs:List PV}{k:Int} (h0:0<=k) (h1:k<xs.length):pIx (.lst xs) (.int k)=.ok (xs.getD k.toNat .non):=by
 simp only[pIx,atI,Zdx h0 h1,Option.bind_some]
 rw[Zt8,Zt9 (by omega)]
 rfl
section
end
structure Dat (n:Nat) (x:PV):Prop where
 nx:x.noX=true
 can:x.dat.canLay0=true
 dep:x.dat.depth<=n
theorem Dat.ok {n:Nat}{x:PV} (h:Dat n x) (hn:n<=64:=by decide):okD x=true:=by
 unfold okD
 rw[h.nx,h.can,decide_eq_true (ZtV h.dep hn)];rfl
theorem ZaG (i:Int):Dat 0 (.int i):=⟨rfl,by simp[PV.dat,PyData.canLay0],by simp[PV.dat,PyData.depth]⟩
theorem ZaE {n:Nat}:∀{xs:List PV},(∀x∈xs,Dat n x)->PV.noXs xs=true/\PyData.canLayAll0 (PV.dats xs)=true/\PyData.depthAll (PV.dats xs)<=n
 |[],_=>⟨rfl,rfl,Zub _⟩
 |x::xs,h=>by
  obtain⟨h1,h2,h3⟩:=ZaE (xs:=xs) fun y hy=>h y (by simp[hy])
  have hx:=h x (by simp)
  refine⟨by simp[PV.noXs,hx.nx,h1],by simp[PV.dats,PyData.canLayAll0,hx.can,h2], ?_⟩
  simp only[PV.dats,PyData.depthAll]
  exact Nat.max_le.mpr ⟨hx.dep,h3⟩
theorem Zcx {n:Nat}{xs:List PV} (h:∀x∈xs,Dat n x):Dat (n+1) (.lst xs):=by
 obtain⟨h1,h2,h3⟩:=ZaE h
 exact⟨by simp[PV.noX,h1],by simp[PV.dat,PyData.canLay0,h2],by simp only[PV.dat,PyData.depth];omega⟩
theorem Zgi {n:Nat}{xs:List PV} (h:∀x∈xs,Dat n x):Dat (n+1) (.tup xs):=by
 obtain⟨h1,h2,h3⟩:=ZaE h
 exact⟨by simp[PV.noX,h1],by simp[PV.dat,PyData.canLay0,h2],by simp only[PV.dat,PyData.depth];omega⟩
theorem Dat.up {m n:Nat}{x:PV} (h:Dat m x) (hn:m<=n):Dat n x:=⟨h.nx,h.can,ZtV h.dep hn⟩
theorem Ur (ns:List Int):Dat 1 (.lst (ns.map PV.int)):=Zcx fun x hx=>by
 obtain⟨i,_,rfl⟩:=ZtY.mp hx
 exact ZaG i
theorem Zgj {a:Str} (h:PyData.canLay0 (.str a)=true):Dat 0 (.str a):=⟨rfl,h,by simp[PV.dat,PyData.depth]⟩
theorem Um {f:PV->Rr (Option PV)}{p:Nat->Bool}{g:Nat->PV}{lo:Int}{n:Nat} (h:∀i,i<n->f (.int (lo+(i:Nat)))=.ok (if p i=true then some (g i) else none)):ZgD f (ZbN lo n)=.ok (((List.range n).filter p).map g):=by
 have key:∀(l:List Nat),(∀i∈l,i<n)->ZgD f (l.map fun(i:Nat)=>PV.int (lo+i))=.ok ((l.filter p).map g):=by
  intro l
  induction l with
  |nil=>intro _;rfl
  |cons a l ih =>
   intro hl
   simp only[ZtP,ZgD,h a (hl a (by simp)),Rr.bind_ok,ih fun i hi=>hl i (by simp[hi])]
   cases hp:p a<;>simp[hp,List.filter_cons]
 exact key _ fun i hi=>Zug.mp hi
theorem Zhv {f:PV->Rr PV}{g:Nat->PV}{lo:Int}{n:Nat} (h:∀i,i<n->f (.int (lo+(i:Nat)))=.ok (g i)):ZaP f (ZbN lo n)=.ok ((List.range n).map g):=by
 have key:∀(l:List Nat),(∀i∈l,i<n)->ZaP f (l.map fun(i:Nat)=>PV.int (lo+i))=.ok (l.map g):=by
  intro l
  induction l with
  |nil=>intro _;rfl
  |cons a l ih =>
   intro hl
   simp only[ZtP,ZaP,h a (hl a (by simp)),Rr.bind_ok,ih fun i hi=>hl i (by simp[hi])]
 exact key _ fun i hi=>Zug.mp hi
theorem Zfi {α:Type}{q:α->PV}{L:List α}{k:Int}{d:α} (h0:0<=k) (h1:k<L.length):pIx (.lst (L.map q)) (.int k)=.ok (q (L.getD k.toNat d)):=by
 rw[Zjh h0 (by simpa using h1),Zt8,Zt8,ZtT,Zt9 (by omega)]
 rfl
section
end
theorem us1 {α:Type}{us:List α} (h:us.length=1):∃a,us=[a]:=match us,h with | [a],_=>⟨a,rfl⟩
theorem us2 {α:Type}{us:List α} (h:us.length=2):∃a b,us=[a,b]:=match us,h with | [a,b],_=>⟨a,b,rfl⟩
theorem us3 {α:Type}{us:List α} (h:us.length=3):∃a b c,us=[a,b,c]:=match us,h with | [a,b,c],_=>⟨a,b,c,rfl⟩
theorem us4 {α:Type}{us:List α} (h:us.length=4):∃a b c d,us=[a,b,c,d]:=match us,h with | [a,b,c,d],_=>⟨a,b,c,d,rfl⟩
theorem us5 {α:Type}{us:List α} (h:us.length=5):∃a b c d e,us=[a,b,c,d,e]:=match us,h with | [a,b,c,d,e],_=>⟨a,b,c,d,e,rfl⟩
section
variable {K:W.Frag}{H:Hp}{S:Addr->Prop}
theorem Reps.rev:∀{xs:List PV}{vs:List V},Reps K H S xs vs->Reps K H S xs.reverse vs.reverse
 |[],_,h=>by rw[h];exact rfl
 |x::xs,_,h=>by
  obtain⟨v,r,rfl,h1,h2⟩:=h
  rw[ZuP,ZuP]
  exact Reps.append (Reps.rev h2) (Reps.one h1)
end
theorem Dat.okE {n:Nat}{x:PV} (h:Dat n x) (hn:n<=60:=by decide):okE x=true:=by
 unfold L2.okE
 rw[h.nx,h.can,decide_eq_true (ZtV h.dep hn)];rfl
theorem ZdX {g:Bool->Bool}{l:List Int}{M:List (List Int)}:Zhm g (.lst (l.map PV.int)) (.lst (M.map fun q=>.lst (q.map PV.int)))=.ok (.bl (g (decide (l∈M)))):=by
 have h1:(okE (.lst (l.map PV.int))&&(M.map fun q=>PV.lst (q.map PV.int)).all okE)=true:=by
  rw[(Ur l).okE,Bool.true_and,Zuo]
  intro x hx
  obtain⟨q,_,rfl⟩:=ZtY.mp hx
  exact(Ur q).okE
 simp only[Zhm]
 rw[if_pos h1]
 congr 3
 induction M with
 |nil=>simp
 |cons q M ih =>
  have h2:(okE (.lst (l.map PV.int))&&(M.map fun q=>PV.lst (q.map PV.int)).all okE)=true:=by
   rw[(Ur l).okE,Bool.true_and,Zuo]
   intro x hx
   obtain⟨q,_,rfl⟩:=ZtY.mp hx
   exact(Ur q).okE
  rw[ZtP,ZuH,ih h2]
  simp only[PV.dat,Uq,PyData.eqv,Vk]
  by_cases c:q=l
  ·simp[c]
  ·have:¬l=q:=fun z=>c z.symm
   simp[c,this]
theorem Qs {g:Bool->Bool}{i:Int}{ns:List Int}:Zhm g (.int i) (.lst (ns.map PV.int))=.ok (.bl (g (decide (i∈ns)))):=by
 have hall:∀ns:List Int,(okE (.int i)&&(ns.map PV.int).all okE)=true:=fun ns=>by
  rw[(ZaG i).okE,Bool.true_and,Zuo]
  intro x hx
  obtain⟨q,_,rfl⟩:=ZtY.mp hx
  exact(ZaG q).okE
 simp only[Zhm]
 rw[if_pos (hall ns)]
 congr 3
 induction ns with
 |nil=>simp
 |cons q M ih =>
  rw[ZtP,ZuH,ih]
  simp only[PV.dat,PyData.eqv]
  by_cases c:q=i
  ·simp[c]
  ·have:¬i=q:=fun z=>c z.symm
   simp[c,this]
section
end
noncomputable abbrev PL2:=Addr×List Int
section
end
noncomputable def Vp (t:List Int):PV:=.lst (t.map PV.int)
section
variable {K:W.Frag}{B:Addr->Prop}{EX:PX->Hp->Prop}{H0 H:Hp}{σ:St}{Γ Γ1 Γ2:List Md}{ρ:List PV}{F:Nat->List Addr}{R:List Addr}{te tb:TE}{fb:List PV->Rr PV}
theorem ZcL:∀{xs:List PV}{vs:List V}{G:List Addr}{n:Nat}{z:PV},Trees K H xs vs G->xs[n]?=some z->∃u G',vs[n]?=some u/\ZZ K H z u G'/\∀a∈G',a∈G
 |[],_,_,n,z,_,e=>by simp at e
 |x::xs,vs,G,n,z,h,e=>by
  obtain⟨v,r,G1,G2,rfl,h1,h2,h3,rfl⟩:=h
  cases n with
  |zero=>simp at e;subst e;exact⟨v,G1,by simp,h1,fun a ha=>ZtF _ ha⟩
  |succ n =>
   obtain⟨u,G',e1,e2,e3⟩:=ZcL (n:=n) h2 (by simpa using e)
   exact⟨u,G',by simpa using e1,e2,fun a ha=>ZtB _ (e3 a ha)⟩
theorem ZcK:∀{xs:List PV}{vs:List V}{G:List Addr},Trees K H xs vs G->vs.length=xs.length
 |[],_,_,h=>by rw[h.1];rfl
 |x::xs,vs,G,h=>by
  obtain⟨v,r,G1,G2,rfl,h1,h2,h3,rfl⟩:=h
  simp[ZcK h2]
theorem ZgJ {xs:List PV}{vs:List V}{G:List Addr}{i:Int}{z:PV} (h:Trees K H xs vs G) (e:atI xs i=some z):∃u G',atI vs i=some u/\ZZ K H z u G'/\∀a∈G',a∈G:=by
 unfold atI at e ⊢
 rw[ZcK h]
 cases hk:ixN xs.length i with
 |none=>rw[hk] at e;cases e
 |some k =>
  rw[hk] at e
  obtain⟨u,G',e1,e2,e3⟩:=ZcL (n:=k) h e
  exact⟨u,G',e1,e2,e3⟩
noncomputable def ZlF (x y:PV):Rr PV:=match x,y with
 |.tup xs,.int i=>match atI xs i with
  |some z=>.ok z
  |none=>.bad
 |_,_=>.bad
theorem Zi1 {te ta':TE}{fa':List PV->Rr PV} (ha:DE K EX Γ Γ1 .F ta' fa') (hb:DE K EX Γ1 Γ2 .A tb fb):DE K EX Γ Γ2 .F (tOp (rIx K) ta' tb) (fun ρ=>(fa' ρ).bind fun x=>(fb ρ).bind fun y=>ZlF x y):=fun B H0 H σ ρ F R Q A d=>by
 refine ha B H0 H σ ρ F R _ A (d.bind.imp (fun x _ d v H1 s1 r1=>?_) fun e q=>q)
 obtain⟨F1,f1,G,t1,o1,A1⟩:=r1
 refine hb B H0 H1 σ ρ F1 (G++R) _ A1 (d.bind.imp (fun y _ d w H2 s2 r2=>?_) fun e q=>q)
 obtain⟨F2,f2,p2,A2⟩:=r2
 cases x with
 |tup xs =>
  cases y with
  |int i =>
   cases p2
   have t2:=t1.same s2
   obtain⟨a,vs,rfl,hq,ht⟩:=t2
   unfold ZlF at d
   cases e1:atI xs i with
   |none=>simp only[e1] at d;exact d.elim
   |some z =>
    simp only[e1] at d
    obtain⟨u,G',e2,e3,e4⟩:=ZgJ ht e1
    exact .inr (.inl ⟨a,vs,i,u,rfl,rfl,hq.sqT,e2,d u H2 (s1.trans s2) ⟨F2,fun i a h=>f1 i a (f2 i a h),G',e3,fun b hb=>o1 b (e4 b hb),A2.less fun b hb=>by
     rcases ZtD.mp hb with z|z
     ·exact ZtF _ (e4 b z)
     ·exact ZtB _ z⟩⟩)
  |_=>exact d.elim
 |_=>exact d.elim
theorem ZkC {x:PV}{xs:List PV}:ZlF (.tup (x::xs)) (.int 0)=.ok x:=by simp[ZlF,atI,ixN]
end
end L2
namespace L2
open PySem PyProof.Rows
structure Ut (prog:Program) (w:World) (A:Around) (s:Shared) (κ:SortKind) (U:Keyed->Prop) (R:Keyed->Keyed->Bool):Prop where
 ask:∀x y,U x->U y->∀(Q:Bool->Shared->Prop),Q (R x y) s->wpAny (model prog w) A (keyLt' κ x.1 y.1) Q (fun _ _=>False) s
 asy:∀x y,U x->U y->R x y=true->R y x=false
 tr:∀x y z,U x->U y->U z->R y x=false->R z y=false->R z x=false
section
variable {prog:Program}{w:World}{A:Around}{E:Value->Shared->Prop}{s:Shared}{κ:SortKind}{U:Keyed->Prop}{R:Keyed->Keyed->Bool}
theorem UX (C:Ut prog w A s κ U R) {st:SortSt}{x y:Keyed}{Q:Option Bool->SortSt->Prop} (hk:kindOf st=κ) (ux:U x) (uy:U y) (h:Q (some (R x y)) st):wpS (model prog w) A E s (lt' x y) Q st:=by
 rw[lt'_eq]
 refine wpS_bind (wpS_get ?_)
 rw[hk]
 refine wpS_bind (wpS_lift (wpAny_attempt (wpAny_mono (C.ask x y ux uy (fun b s'=>s'=s/\b=R x y) ⟨rfl,rfl⟩) (fun b s' q=>?_) fun _ _ q=>q.elim)))
 obtain⟨rfl,rfl⟩:=q
 exact⟨rfl,wpS_pure h⟩
theorem Zn {st:SortSt}{arr:Array Keyed}{i:Nat}{x:Keyed}{Q:Keyed->SortSt->Prop} (hx:arr[i]?=some x) (h:Q x st):wpS (model prog w) A E s (elem' arr i) Q st:=by
 rw[elem'_eq,hx]
 exact wpS_pure h
end
noncomputable def V2:Bool->Keyed->Array Keyed->Nat->Nat->Nat->StateT SortSt Sem (Option Nat):=sortPriv% PySem.Builtin.gallop
noncomputable def ZdU (left:Bool) (key:Keyed) (arr:Array Keyed) (base:Nat) (i:Nat):StateT SortSt Sem (Option Bool):=do
 let x <- elem' arr (base+i)
 if left then lt' x key else return (<- lt' key x).map (!·)
theorem Zel (left:Bool) (key:Keyed) (arr:Array Keyed) (base n hint:Nat):V2 left key arr base n hint=(do
  let mut u:=0
  let mut v:=1
  let mut a:=0
  let mut b:=0
  let some r <- ZdU left key arr base hint|return none
  if r then
   let w:=n-hint
   for _ in [0:n] do
    if v ≥ w then break
    let some m <- ZdU left key arr base (hint+v)|return none
    if !m then break
    u:=v
    v:=2*v+1
   a:=hint+u+1
   b:=hint+min v w
  else
   let w:=hint+1
   for _ in [0:n] do
    if v ≥ w then break
    let some m <- ZdU left key arr base (hint-v)|return none
    if m then break
    u:=v
    v:=2*v+1
   a:=hint+1-min v w
   b:=hint-u
  for _ in [0:n] do
   if a ≥ b then break
   let c:=a+(b-a)/2
   let some m <- ZdU left key arr base c|return none
   if m then a:=c+1 else b:=c
  return some b):=rfl
section
variable {prog:Program}{w:World}{A:Around}{E:Value->Shared->Prop}{s:Shared}{κ:SortKind}{U:Keyed->Prop}{R:Keyed->Keyed->Bool}
structure UB (U:Keyed->Prop) (R:Keyed->Keyed->Bool) (left:Bool) (key:Keyed) (arr:Array Keyed) (base n:Nat) (P:Nat->Bool):Prop where
 uk:U key
 it:∀i,i<n->∃x,arr[base+i]?=some x/\U x/\P i=(if left=true then R x key else !R key x)
 mono:∀i j,i<=j->j<n->P j=true->P i=true
theorem VS (C:Ut prog w A s κ U R) {st:SortSt}{left:Bool}{key:Keyed}{arr:Array Keyed}{base n i:Nat}{P:Nat->Bool}{Q:Option Bool->SortSt->Prop} (hk:kindOf st=κ) (K:UB U R left key arr base n P) (hi:i<n) (h:Q (some (P i)) st) :
  wpS (model prog w) A E s (ZdU left key arr base i) Q st:=by
 obtain⟨x,hx,ux,hp⟩:=K.it i hi
 unfold ZdU
 refine wpS_bind (Zn hx ?_)
 cases left with
 |true =>
  rw[if_pos rfl] at hp ⊢
  exact UX C hk ux K.uk (by rw[<- hp];exact h)
 |false =>
  rw[if_neg (by decide)] at hp ⊢
  exact wpS_bind (UX C hk K.uk ux (wpS_pure (by rw[Option.map_some,<- hp];exact h)))
theorem ZK (C:Ut prog w A s κ U R) {st:SortSt}{left:Bool}{key:Keyed}{arr:Array Keyed}{base n hint:Nat}{P:Nat->Bool}{Q:Option Nat->SortSt->Prop} (hk:kindOf st=κ) (K:UB U R left key arr base n P) (hh:hint<n)
  (h:∀k,k<=n->(∀i,i<k->P i=true)->(∀i,k<=i->i<n->P i=false)->Q (some k) st):wpS (model prog w) A E s (V2 left key arr base n hint) Q st:=by
 rw[Zel]
 refine wpS_bind (VS C hk K hh ?_)
 dsimp only
 have down:∀{i j},i<=j->j<n->P i=false->P j=false:=fun {i j} h1 h2 h3=>by
  cases hj:P j with
  |false=>rfl
  |true=>rw[K.mono i j h1 h2 hj] at h3;cases h3
 cases hP:P hint with
 |true =>
  rw[if_pos rfl]
  refine wpS_bind (wpS_mono (wpS_forRange (I:=fun x (c:Option (Option Nat)×Nat×Nat) (st':SortSt)=>st'=st/\c.1=none/\P (hint+c.2.1)=true/\hint+c.2.1<n/\c.2.1<c.2.2/\x+1<=c.2.2)
   (Q:=fun(c:Option (Option Nat)×Nat×Nat) (st':SortSt)=>st'=st/\c.1=none/\P (hint+c.2.1)=true/\hint+c.2.1<n/\c.2.1<c.2.2/\(n-hint<=c.2.2\/(c.2.2<n-hint/\P (hint+c.2.2)=false))) ?_ ?_ ⟨rfl,rfl,by simpa using hP,by simpa using hh,Nat.zero_lt_one,ZtE _⟩) ?_)
  ·rintro x ⟨o,u,v⟩ st' _ hx ⟨rfl,rfl,q1,q2,q3,q4⟩
   dsimp only at q1 q2 q3 q4 ⊢
   by_cases hv:v ≥ n-hint
   ·rw[if_pos hv]
    exact wpS_pure ⟨rfl,rfl,q1,q2,q3,.inl hv⟩
   ·rw[if_neg hv]
    refine wpS_bind (VS C hk K (by omega) ?_)
    dsimp only
    cases hm:P (hint+v) with
    |true =>
     rw[if_neg (by decide)]
     exact wpS_pure ⟨rfl,rfl,hm,by dsimp only;omega,by dsimp only;omega,by dsimp only;omega⟩
    |false =>
     rw[if_pos (by decide)]
     exact wpS_pure ⟨rfl,rfl,q1,q2,q3,.inr ⟨by dsimp only;omega,hm⟩⟩
  ·rintro⟨o,u,v⟩ st' ⟨rfl,rfl,q1,q2,q3,q4⟩
   dsimp only at q1 q2 q3 q4 ⊢
   exact⟨rfl,rfl,q1,q2,q3,.inl (by omega)⟩
  rintro⟨o,u,v⟩ st' ⟨hst,rfl,q1,q2,q3,q4⟩
  have hst:=hst.symm
  subst hst
  dsimp only at q1 q2 q3 q4 ⊢
  have ab:hint+u+1<=hint+min v (n-hint):=by omega
  have bn:hint+min v (n-hint)<=n:=by omega
  have pa:∀i,i<hint+u+1->P i=true:=fun i hi=>K.mono i (hint+u) (by omega) (by omega) q1
  have pb:∀i,hint+min v (n-hint)<=i->i<n->P i=false:=fun i h1 h2=>by
   rcases q4 with q4|⟨q4,q5⟩
   ·omega
   ·exact down (by omega) h2 q5
  refine wpS_bind (wpS_mono (wpS_forRange (I:=fun x (c:Option (Option Nat)×Nat×Nat) (st':SortSt)=>st'=st/\c.1=none/\c.2.1<=c.2.2/\c.2.2<=n/\(∀i,i<c.2.1->P i=true)/\(∀i,c.2.2<=i->i<n->P i=false)/\c.2.2-c.2.1<=n-x)
   (Q:=fun(c:Option (Option Nat)×Nat×Nat) (st':SortSt)=>st'=st/\c.1=none/\c.2.1=c.2.2/\c.2.2<=n/\(∀i,i<c.2.1->P i=true)/\(∀i,c.2.2<=i->i<n->P i=false)) ?_ ?_ ⟨rfl,rfl,ab,bn,pa,pb,by dsimp only;omega⟩) ?_)
  ·rintro x ⟨o,a,b⟩ st' _ hx ⟨rfl,rfl,q1,q2,q3,q4,q5⟩
   dsimp only at q1 q2 q3 q4 q5 ⊢
   by_cases hab:a ≥ b
   ·rw[if_pos hab]
    exact wpS_pure ⟨rfl,rfl,by dsimp only;omega,q2,q3,q4⟩
   ·rw[if_neg hab]
    refine wpS_bind (VS C hk K (by omega) ?_)
    dsimp only
    cases hm:P (a+(b-a)/2) with
    |true =>
     rw[if_pos rfl]
     exact wpS_pure ⟨rfl,rfl,by dsimp only;omega,q2,fun i hi=>K.mono i (a+(b-a)/2) (by dsimp only at hi;omega) (by omega) hm,q4,by dsimp only;omega⟩
    |false =>
     rw[if_neg (by decide)]
     refine wpS_pure ⟨rfl,rfl,by dsimp only;omega,by dsimp only;omega,q3,fun i h1 h2=>?_,by dsimp only;omega⟩
     cases hi:P i with
     |false=>rfl
     |true=>rw[K.mono _ i h1 h2 hi] at hm;cases hm
  ·rintro⟨o,a,b⟩ st' ⟨rfl,rfl,q1,q2,q3,q4,q5⟩
   dsimp only at q1 q2 q3 q4 q5 ⊢
   exact⟨rfl,rfl,by omega,q2,q3,q4⟩
  ·rintro⟨o,a,b⟩ st' ⟨rfl,rfl,q1,q2,q3,q4⟩
   dsimp only at q1 q2 q3 q4 ⊢
   exact wpS_pure (h b q2 (by rw[<- q1];exact q3) q4)
 |false =>
  rw[if_neg (by decide)]
  refine wpS_bind (wpS_mono (wpS_forRange (I:=fun x (c:Option (Option Nat)×Nat×Nat) (st':SortSt)=>st'=st/\c.1=none/\P (hint-c.2.1)=false/\c.2.1<=hint/\c.2.1<c.2.2/\x+1<=c.2.2)
   (Q:=fun(c:Option (Option Nat)×Nat×Nat) (st':SortSt)=>st'=st/\c.1=none/\P (hint-c.2.1)=false/\c.2.1<=hint/\c.2.1<c.2.2/\(hint+1<=c.2.2\/(c.2.2<=hint/\P (hint-c.2.2)=true))) ?_ ?_ ⟨rfl,rfl,by simpa using hP,Zub _,Nat.zero_lt_one,ZtE _⟩) ?_)
  ·rintro x ⟨o,u,v⟩ st' _ hx ⟨rfl,rfl,q1,q2,q3,q4⟩
   dsimp only at q1 q2 q3 q4 ⊢
   by_cases hv:v ≥ hint+1
   ·rw[if_pos hv]
    exact wpS_pure ⟨rfl,rfl,q1,q2,q3,.inl hv⟩
   ·rw[if_neg hv]
    refine wpS_bind (VS C hk K (by omega) ?_)
    dsimp only
    cases hm:P (hint-v) with
    |true =>
     rw[if_pos rfl]
     exact wpS_pure ⟨rfl,rfl,q1,q2,q3,.inr ⟨by dsimp only;omega,hm⟩⟩
    |false =>
     rw[if_neg (by decide)]
     exact wpS_pure ⟨rfl,rfl,hm,by dsimp only;omega,by dsimp only;omega,by dsimp only;omega⟩
  ·rintro⟨o,u,v⟩ st' ⟨rfl,rfl,q1,q2,q3,q4⟩
   dsimp only at q1 q2 q3 q4 ⊢
   exact⟨rfl,rfl,q1,q2,q3,.inl (by omega)⟩
  rintro⟨o,u,v⟩ st' ⟨hst,rfl,q1,q2,q3,q4⟩
  have hst:=hst.symm
  subst hst
  dsimp only at q1 q2 q3 q4 ⊢
  have ab:hint+1-min v (hint+1)<=hint-u:=by omega
  have bn:hint-u<=n:=by omega
  have pa:∀i,i<hint+1-min v (hint+1)->P i=true:=fun i hi=>by
   rcases q4 with q4|⟨q4,q5⟩
   ·omega
   ·exact K.mono i (hint-v) (by omega) (by omega) q5
  have pb:∀i,hint-u<=i->i<n->P i=false:=fun i h1 h2=>down h1 h2 q1
  refine wpS_bind (wpS_mono (wpS_forRange (I:=fun x (c:Option (Option Nat)×Nat×Nat) (st':SortSt)=>st'=st/\c.1=none/\c.2.1<=c.2.2/\c.2.2<=n/\(∀i,i<c.2.1->P i=true)/\(∀i,c.2.2<=i->i<n->P i=false)/\c.2.2-c.2.1<=n-x)
   (Q:=fun(c:Option (Option Nat)×Nat×Nat) (st':SortSt)=>st'=st/\c.1=none/\c.2.1=c.2.2/\c.2.2<=n/\(∀i,i<c.2.1->P i=true)/\(∀i,c.2.2<=i->i<n->P i=false)) ?_ ?_ ⟨rfl,rfl,ab,bn,pa,pb,by dsimp only;omega⟩) ?_)
  ·rintro x ⟨o,a,b⟩ st' _ hx ⟨rfl,rfl,q1,q2,q3,q4,q5⟩
   dsimp only at q1 q2 q3 q4 q5 ⊢
   by_cases hab:a ≥ b
   ·rw[if_pos hab]
    exact wpS_pure ⟨rfl,rfl,by dsimp only;omega,q2,q3,q4⟩
   ·rw[if_neg hab]
    refine wpS_bind (VS C hk K (by omega) ?_)
    dsimp only
    cases hm:P (a+(b-a)/2) with
    |true =>
     rw[if_pos rfl]
     exact wpS_pure ⟨rfl,rfl,by dsimp only;omega,q2,fun i hi=>K.mono i (a+(b-a)/2) (by dsimp only at hi;omega) (by omega) hm,q4,by dsimp only;omega⟩
    |false =>
     rw[if_neg (by decide)]
     refine wpS_pure ⟨rfl,rfl,by dsimp only;omega,by dsimp only;omega,q3,fun i h1 h2=>?_,by dsimp only;omega⟩
     cases hi:P i with
     |false=>rfl
     |true=>rw[K.mono _ i h1 h2 hi] at hm;cases hm
  ·rintro⟨o,a,b⟩ st' ⟨rfl,rfl,q1,q2,q3,q4,q5⟩
   dsimp only at q1 q2 q3 q4 q5 ⊢
   exact⟨rfl,rfl,by omega,q2,q3,q4⟩
  ·rintro⟨o,a,b⟩ st' ⟨rfl,rfl,q1,q2,q3,q4⟩
   dsimp only at q1 q2 q3 q4 ⊢
   exact wpS_pure (h b q2 (by rw[<- q1];exact q3) q4)
end
noncomputable def Za1:Array Keyed->Array Keyed->StateT SortSt Sem (Array Keyed):=sortPriv% PySem.Builtin.mergeLo
noncomputable def Zky (g:Nat):StateT SortSt Sem Unit:=modify fun s=>SortSt.mk' (kindOf s) (arrOf s) (pendingOf s) g (failedOf s)
noncomputable def endA (a b o:Array Keyed) (i j:Nat):Array Keyed:=o++a.extract i a.size++b.extract j b.size
noncomputable def endB (a b o:Array Keyed) (i j:Nat):Array Keyed:=o++b.extract j b.size++a.extract i a.size
theorem Zch (a b:Array Keyed):Za1 a b=(do
  rule "list.sort.merge-lo"
  let n:=a.size+b.size
  let mut o:Array Keyed:=#[<- elem' b 0]
  let mut i:=0
  let mut j:=1
  if j==b.size then return endA a b o i j
  if i+1==a.size then return endB a b o i j
  let mut g:=gallopOf (<- get)
  for _ in [0:n] do
   let mut x:=0
   let mut y:=0
   for _ in [0:n] do
    let some t <- lt' (<- elem' b j) (<- elem' a i)|return endA a b o i j
    if t then
     o:=o.push (<- elem' b j);j:=j+1;y:=y+1;x:=0
     if j==b.size then return endA a b o i j
     if y ≥ g then break
    else
     o:=o.push (<- elem' a i);i:=i+1;x:=x+1;y:=0
     if i+1==a.size then return endB a b o i j
     if x ≥ g then break
   rule "list.sort.gallop"
   g:=g+1
   for _ in [0:n] do
    if g>1 then g:=g-1
    Zky g
    let some k <- V2 false (<- elem' b j) a i (a.size-i) 0|return endA a b o i j
    x:=k
    if k>0 then
     o:=o++a.extract i (i+k);i:=i+k
     if i+1==a.size then return endB a b o i j
     if i==a.size then return endA a b o i j
    o:=o.push (<- elem' b j);j:=j+1
    if j==b.size then return endA a b o i j
    let some k <- V2 true (<- elem' a i) b j (b.size-j) 0|return endA a b o i j
    y:=k
    if k>0 then
     o:=o++b.extract j (j+k);j:=j+k
     if j==b.size then return endA a b o i j
    o:=o.push (<- elem' a i);i:=i+1
    if i+1==a.size then return endB a b o i j
    if x<7&&y<7 then break
   g:=g+1
   Zky g
  unsupported "internal:list.sort.merge-bound"):=rfl
def Srt (R:Keyed->Keyed->Bool) (l:List Keyed):Prop:=l.Pairwise fun x y=>R y x=false
structure MI (R:Keyed->Keyed->Bool) (a b o:List Keyed) (i j:Nat):Prop where
 perm:o.Perm (a.take i++b.take j)
 srt:Srt R o
 ga:∀x∈o,∀y∈a.drop i,R y x=false
 gb:∀x∈o,∀y∈b.drop j,R y x=false
 hi:i<=a.length
 hj:j<=b.length
section
variable {R:Keyed->Keyed->Bool}{a b o:List Keyed}{i j:Nat}
theorem VE (l:List Keyed) (i k:Nat):(l.drop i).take k++l.drop (i+k)=l.drop i:=by
 rw[<- List.drop_drop];exact ZtW k (l.drop i)
theorem ZcN (l:List Keyed) (i k:Nat):l.take i++(l.drop i).take k=l.take (i+k):=(List.take_add).symm
theorem Srt.drop {l:List Keyed} (h:Srt R l) (i:Nat):Srt R (l.drop i):=h.sublist (List.drop_sublist i l)
theorem MI.pushA (M:MI R a b o i j) (sa:Srt R a) (k:Nat) (hk:i+k<=a.length) (hle:∀x∈(a.drop i).take k,∀y∈b.drop j,R y x=false):MI R a b (o++(a.drop i).take k) (i+k) j:=by
 have sd:=sa.drop i
 rw[<- VE a i k] at sd
 obtain⟨s1,s2,s3⟩:=ZtO.mp sd
 refine⟨?_, ?_, ?_, ?_,hk,M.hj⟩
 ·rw[<- ZcN]
  refine(M.perm.append_right _).trans ?_
  rw[ZtK,ZtK]
  exact List.Perm.append_left _ ZuA
 ·exact ZtO.mpr ⟨M.srt,s1,fun x hx y hy=>M.ga x hx y (Zuc hy)⟩
 ·intro x hx y hy
  rcases ZtD.mp hx with hx|hx
  ·exact M.ga x hx y (by rw[<- VE a i k];exact ZtB _ hy)
  ·exact s3 x hx y hy
 ·intro x hx y hy
  rcases ZtD.mp hx with hx|hx
  ·exact M.gb x hx y hy
  ·exact hle x hx y hy
theorem MI.pushB (M:MI R a b o i j) (sb:Srt R b) (k:Nat) (hk:j+k<=b.length) (hle:∀x∈(b.drop j).take k,∀y∈a.drop i,R y x=false):MI R a b (o++(b.drop j).take k) i (j+k):=by
 have sd:=sb.drop j
 rw[<- VE b j k] at sd
 obtain⟨s1,s2,s3⟩:=ZtO.mp sd
 refine⟨?_, ?_, ?_, ?_,M.hi,hk⟩
 ·rw[<- ZcN]
  refine(M.perm.append_right _).trans ?_
  rw[ZtK]
 ·exact ZtO.mpr ⟨M.srt,s1,fun x hx y hy=>M.gb x hx y (Zuc hy)⟩
 ·intro x hx y hy
  rcases ZtD.mp hx with hx|hx
  ·exact M.ga x hx y hy
  ·exact hle x hx y hy
 ·intro x hx y hy
  rcases ZtD.mp hx with hx|hx
  ·exact M.gb x hx y (by rw[<- VE b j k];exact ZtB _ hy)
  ·exact s3 x hx y hy
theorem MI.all_perm (M:MI R a b o i j):(o++(a.drop i++b.drop j)).Perm (a++b):=by
 refine(M.perm.append_right _).trans ?_
 have e1:(a.take i++b.take j++(a.drop i++b.drop j))=a.take i++(b.take j++a.drop i)++b.drop j:=by simp[ZtK]
 rw[e1]
 have p1:(a.take i++(b.take j++a.drop i)++b.drop j).Perm (a.take i++(a.drop i++b.take j)++b.drop j):=(List.Perm.append_left _ ZuA).append_right _
 refine p1.trans ?_
 have e2:a.take i++(a.drop i++b.take j)++b.drop j=(a.take i++a.drop i)++(b.take j++b.drop j):=by rw[ZtK,ZtK,ZtK]
 rw[e2,ZtW,ZtW]
theorem MI.endA (M:MI R a b o i j) (sa:Srt R a) (sb:Srt R b) (h:i=a.length\/j=b.length):Srt R (o++(a.drop i++b.drop j))/\(o++(a.drop i++b.drop j)).Perm (a++b):=by
 refine⟨?_,M.all_perm⟩
 refine ZtO.mpr ⟨M.srt, ?_,fun x hx y hy=>?_⟩
 ·rcases h with h|h
  ·rw[h,List.drop_length,ZuC];exact sb.drop j
  ·rw[h,List.drop_length,Zu9];exact sa.drop i
 ·rcases ZtD.mp hy with hy|hy
  ·exact M.ga x hx y hy
  ·exact M.gb x hx y hy
theorem MI.endB (M:MI R a b o i j) (sa:Srt R a) (sb:Srt R b) (h:∀x∈b.drop j,∀y∈a.drop i,R y x=false):Srt R (o++(b.drop j++a.drop i))/\(o++(b.drop j++a.drop i)).Perm (a++b):=by
 refine⟨?_,(List.Perm.append_left _ ZuA).trans M.all_perm⟩
 refine ZtO.mpr ⟨M.srt,ZtO.mpr ⟨sb.drop j,sa.drop i,h⟩,fun x hx y hy=>?_⟩
 rcases ZtD.mp hy with hy|hy
 ·exact M.gb x hx y hy
 ·exact M.ga x hx y hy
end
section
variable {prog:Program}{w:World}{A:Around}{s:Shared}{κ:SortKind}{U:Keyed->Prop}{R:Keyed->Keyed->Bool}
noncomputable abbrev Vq (st:SortSt) (g:Nat):SortSt:=SortSt.mk' (kindOf st) (arrOf st) (pendingOf st) g (failedOf st)
structure MLo (U:Keyed->Prop) (R:Keyed->Keyed->Bool) (a b:Array Keyed):Prop where
 ua:∀x∈a.toList,U x
 ub:∀x∈b.toList,U x
 sa:Srt R a.toList
 sb:Srt R b.toList
 na:0<a.size
 nb:0<b.size
 fst:∀x y,b.toList[0]?=some x->a.toList[0]?=some y->R y x=false
 lst:∀x∈b.toList,∀y,a.toList[a.size-1]?=some y->R y x=false
theorem Ut.irr (C:Ut prog w A s κ U R) {x:Keyed} (ux:U x):R x x=false:=by
 cases h:R x x with
 |false=>rfl
 |true=>have:=C.asy x x ux ux h;rw[h] at this;cases this
theorem Ut.dropLe (C:Ut prog w A s κ U R) {l:List Keyed}{i:Nat}{x z:Keyed} (ul:∀y∈l,U y) (hs:Srt R l) (hz:l[i]?=some z) (ux:U x) (h:R z x=false):∀y∈l.drop i,R y x=false:=fun y hy=>by
 have hi:=(ZtC.mp hz).1
 have e:l.drop i=z::l.drop (i+1):=by
  rw[ZtS hi]
  rw[Zt9 hi] at hz
  cases hz;rfl
 have uz:U z:=ul z (ZtA hz)
 have sd:=hs.drop i
 rw[e] at sd hy
 rcases ZtN.mp hy with rfl|hy'
 ·exact h
 ·have h2:=(Zu3.mp sd).1 y hy'
  exact C.tr x z y ux uz (ul y (Zuf hy')) h h2
theorem Srt.le (C:Ut prog w A s κ U R) {l:List Keyed} (ul:∀y∈l,U y) (hs:Srt R l) {i j:Nat}{x y:Keyed} (hij:i<=j) (hx:l[i]?=some x) (hy:l[j]?=some y):R y x=false:=by
 by_cases e:i=j
 ·subst e
  rw[hx] at hy;cases hy
  exact C.irr (ul x (ZtA hx))
 ·have hi:=(ZtC.mp hx)
  have hj:=(ZtC.mp hy)
  have:=Zuz.mp hs i j hi.1 hj.1 (by omega)
  rw[hi.2,hj.2] at this
  exact this
theorem ZgM (a b o:Array Keyed) (i j:Nat):(endA a b o i j).toList=o.toList++(a.toList.drop i++b.toList.drop j):=by
 simp only[endA,Zvw,ZuE,ZtK,Zul]
 rw[Zue (by simp),Zue (by simp)]
theorem ZgL (a b o:Array Keyed) (i j:Nat):(endB a b o i j).toList=o.toList++(b.toList.drop j++a.toList.drop i):=by
 simp only[endB,Zvw,ZuE,ZtK,Zul]
 rw[Zue (by simp),Zue (by simp)]
theorem UL {l:List Keyed}{i:Nat}{x:Keyed} (h:l[i]?=some x):(l.drop i).take 1=[x]:=by
 have hi:=(ZtC.mp h)
 rw[ZtS hi.1,hi.2];rfl
theorem U2 {l:List Keyed}{i k:Nat}{x:Keyed} (h:x∈(l.drop i).take k):∃t,t<k/\l[i+t]?=some x:=by
 obtain⟨t,ht⟩:=Zu4 h
 rw[Zuq] at ht
 split at ht
 ·rename_i hk
  rw[Zut] at ht
  exact⟨t,hk,ht⟩
 ·cases ht
theorem J1 {l:List Keyed}{i:Nat}{x:Keyed} (h:x∈l.drop i):∃t,l[i+t]?=some x:=by
 obtain⟨t,ht⟩:=Zu4 h
 rw[Zut] at ht
 exact⟨t,ht⟩
theorem Zhf (C:Ut prog w A s κ U R) {l:Array Keyed}{key:Keyed}{i:Nat} (ul:∀y∈l.toList,U y) (hs:Srt R l.toList) (uk:U key) (hi:i<=l.size) :
  UB U R false key l i (l.size-i) (fun t=>!R key (l.getD (i+t) (.none,.none))):=by
 have get:∀t,t<l.size-i->l.toList[i+t]?=some (l.getD (i+t) (.none,.none))/\l[i+t]?=some (l.getD (i+t) (.none,.none)):=fun t ht=>by
  have hlt:i+t<l.size:=by omega
  have e:l.getD (i+t) (.none,.none)=l[i+t]:=by simp[Array.getD,hlt]
  rw[e]
  exact⟨by simp[hlt],by simp[hlt]⟩
 refine⟨uk,fun t ht=>⟨_,(get t ht).2,ul _ (ZtA (get t ht).1),by rw[if_neg (by decide)]⟩,fun t u htu hu h=>?_⟩
 have hu':=get u hu
 have ht':=get t (by omega)
 have h1:R key (l.getD (i+u) (.none,.none))=false:=by simpa using h
 have h2:=Srt.le C ul hs (show i+t<=i+u by omega) ht'.1 hu'.1
 have:=C.tr _ _ key (ul _ (ZtA ht'.1)) (ul _ (ZtA hu'.1)) uk h2 h1
 show (!R key _)=true
 rw[this];rfl
theorem Zbi (C:Ut prog w A s κ U R) {l:Array Keyed}{key:Keyed}{i:Nat} (ul:∀y∈l.toList,U y) (hs:Srt R l.toList) (uk:U key) (hi:i<=l.size) :
  UB U R true key l i (l.size-i) (fun t=>R (l.getD (i+t) (.none,.none)) key):=by
 have get:∀t,t<l.size-i->l.toList[i+t]?=some (l.getD (i+t) (.none,.none))/\l[i+t]?=some (l.getD (i+t) (.none,.none)):=fun t ht=>by
  have hlt:i+t<l.size:=by omega
  have e:l.getD (i+t) (.none,.none)=l[i+t]:=by simp[Array.getD,hlt]
  rw[e]
  exact⟨by simp[hlt],by simp[hlt]⟩
 refine⟨uk,fun t ht=>⟨_,(get t ht).2,ul _ (ZtA (get t ht).1),by rw[if_pos rfl]⟩,fun t u htu hu h=>?_⟩
 have hu':=get u hu
 have ht':=get t (by omega)
 cases hc:R (l.getD (i+t) (.none,.none)) key with
 |true=>rfl
 |false =>
  have h2:=Srt.le C ul hs (show i+t<=i+u by omega) ht'.1 hu'.1
  have:=C.tr key _ _ uk (ul _ (ZtA ht'.1)) (ul _ (ZtA hu'.1)) hc h2
  rw[this] at h;cases h
end
section
variable {prog:Program}{w:World}{A:Around}{E:Value->Shared->Prop}{s:Shared}{κ:SortKind}{U:Keyed->Prop}{R:Keyed->Keyed->Bool}
def U7 (R:Keyed->Keyed->Bool) (a b:Array Keyed) (st:SortSt) (r:Array Keyed) (st':SortSt):Prop:=Srt R r.toList/\r.toList.Perm (a.toList++b.toList)/\∃g,st'=Vq st g
def JLo (R:Keyed->Keyed->Bool) (a b:Array Keyed) (st:SortSt) (o:Array Keyed) (i j:Nat) (st':SortSt):Prop:=MI R a.toList b.toList o.toList i j/\i+1<a.size/\j<b.size/\∃g,st'=Vq st g
theorem V7 {st:SortSt}{g:Nat}{Q:Unit->SortSt->Prop} (h:Q () (Vq st g)):wpS (model prog w) A E s (Zky g) Q st:=wpS_modify h
theorem Jw {l:Array Keyed}{i:Nat} (h:i<l.size):∃x,l[i]?=some x/\l.toList[i]?=some x/\x∈l.toList:=
 ⟨l[i],by simp[h],by simp[h],by simp⟩
section
variable {st st':SortSt}{a b o:Array Keyed}{i j:Nat}
theorem MLo.finA (M:MLo U R a b) (m:MI R a.toList b.toList o.toList i j) (h:i=a.size\/j=b.size) (hg:∃g,st'=Vq st g):U7 R a b st (endA a b o i j) st':=by
 obtain⟨h1,h2⟩:=m.endA M.sa M.sb (by simpa using h)
 rw[<- ZgM] at h1 h2
 exact⟨h1,h2,hg⟩
theorem MLo.finB (M:MLo U R a b) (m:MI R a.toList b.toList o.toList i j) (h:i+1=a.size) (hg:∃g,st'=Vq st g):U7 R a b st (endB a b o i j) st':=by
 obtain⟨h1,h2⟩:=m.endB M.sa M.sb fun x hx y hy=>M.lst x (Zuf hx) y (by
  obtain⟨t,ht⟩:=J1 hy
  have hl:=(ZtC.mp ht).1
  rw[ZtH] at hl
  rw[show a.size-1=i+t by omega];exact ht)
 rw[<- ZgL] at h1 h2
 exact⟨h1,h2,hg⟩
theorem MLo.a1 (C:Ut prog w A s κ U R) (M:MLo U R a b) (m:MI R a.toList b.toList o.toList i j) {x:Keyed} (hx:a.toList[i]?=some x) (hle:∀y∈b.toList.drop j,R y x=false):MI R a.toList b.toList (o.push x).toList (i+1) j:=by
 have hi:=(ZtC.mp hx).1
 have:=m.pushA M.sa 1 (by omega) (by rw[UL hx];intro y hy;rw[ZtQ.mp hy];exact hle)
 rw[UL hx] at this
 rw[Zvi];exact this
theorem MLo.b1 (C:Ut prog w A s κ U R) (M:MLo U R a b) (m:MI R a.toList b.toList o.toList i j) {x:Keyed} (hx:b.toList[j]?=some x) (hle:∀y∈a.toList.drop i,R y x=false):MI R a.toList b.toList (o.push x).toList i (j+1):=by
 have hj:=(ZtC.mp hx).1
 have:=m.pushB M.sb 1 (by omega) (by rw[UL hx];intro y hy;rw[ZtQ.mp hy];exact hle)
 rw[UL hx] at this
 rw[Zvi];exact this
theorem Ux (l:Array Keyed) (i k:Nat):(o++l.extract i (i+k)).toList=o.toList++(l.toList.drop i).take k:=by
 simp only[Zvw,ZuE,Zul]
 rw[show i+k-i=k by omega]
end
theorem ZO {l:Array Keyed}{i:Nat}{x:Keyed} (h:l.toList[i]?=some x):l.getD i (.none,.none)=x:=by
 have hi:=ZtC.mp h
 have hs:i<l.size:=by simpa using hi.1
 simp only[Array.getD,hs,dif_pos]
 exact hi.2
theorem ZbP (C:Ut prog w A s κ U R) {st:SortSt}{a b:Array Keyed}{Q:Array Keyed->SortSt->Prop} (hk:kindOf st=κ) (M:MLo U R a b)
  (h:∀o st',U7 R a b st o st'->Q o st'):wpS (model prog w) A E s (Za1 a b) Q st:=by
 rw[Zch]
 obtain⟨b0,hb0,hb0l,hb0m⟩:=Jw M.nb
 obtain⟨a0,ha0,ha0l,ha0m⟩:=Jw M.na
 refine wpS_bind (wpS_lift (wpAny_rule ⟨rfl, ?_⟩))
 refine wpS_bind (Zn hb0 ?_)
 dsimp only
 have m0:MI R a.toList b.toList (#[]:Array Keyed).toList 0 0:=⟨by simp,List.Pairwise.nil,fun x hx=>by simp at hx,fun x hx=>by simp at hx,Zub _,Zub _⟩
 have m1:MI R a.toList b.toList (#[b0]:Array Keyed).toList 0 1:=MLo.b1 C M m0 hb0l (C.dropLe M.ua M.sa ha0l (M.ub _ hb0m) (M.fst _ _ hb0l ha0l))
 have g0:∃g,st=Vq st g:=⟨gallopOf st,rfl⟩
 by_cases c1:1=b.size
 ·rw[if_pos (by simpa using c1)]
  exact wpS_pure (h _ _ (M.finA m1 (.inr c1) g0))
 rw[if_neg (by simpa using c1)]
 by_cases c2:0+1=a.size
 ·rw[if_pos (by simpa using c2)]
  exact wpS_pure (h _ _ (M.finB m1 c2 g0))
 rw[if_neg (by simpa using c2)]
 refine wpS_bind (wpS_get ?_)
 have na:=M.na
 have nb:=M.nb
 refine wpS_bind (wpS_mono (wpS_forRange
  (I:=fun x (c:Option (Array Keyed)×Array Keyed×Nat×Nat×Nat) (st':SortSt)=>c.1=none/\JLo R a b st c.2.1 c.2.2.1 c.2.2.2.1 st'/\x+1<=c.2.2.1+c.2.2.2.1)
  (Q:=fun(c:Option (Array Keyed)×Array Keyed×Nat×Nat×Nat) (st':SortSt)=>∃r,c.1=some r/\U7 R a b st r st') ?step ?fin ⟨rfl,⟨m1,by dsimp only;omega,by dsimp only;omega,g0⟩,ZtE _⟩) ?post)
 case fin =>
  rintro⟨o1,o,i,j,g⟩ st' ⟨h1,⟨h2,h3,h4,h5⟩,h6⟩
  dsimp only at h3 h4 h6
  omega
 case post =>
  rintro⟨o1,o,i,j,g⟩ st' ⟨r,h1,h2⟩
  dsimp only at h1
  subst h1
  exact wpS_pure (h _ _ h2)
 case step =>
  rintro x ⟨o1,o,i,j,g⟩ st1 _ hx ⟨rfl,J,hm⟩
  dsimp only at J hm ⊢
  refine wpS_bind (wpS_mono (wpS_forRange
   (I:=fun x' (c:Option (Array Keyed)×Array Keyed×Nat×Nat×Nat×Nat) (st':SortSt)=>c.1=none/\JLo R a b st c.2.1 c.2.2.1 c.2.2.2.1 st'/\i+j+x'<=c.2.2.1+c.2.2.2.1)
   (Q:=fun(c:Option (Array Keyed)×Array Keyed×Nat×Nat×Nat×Nat) (st':SortSt)=>(∃r,c.1=some r/\U7 R a b st r st')\/(c.1=none/\JLo R a b st c.2.1 c.2.2.1 c.2.2.2.1 st'/\i+j+1<=c.2.2.1+c.2.2.2.1)) ?step1 ?fin1 ⟨rfl,J,ZtE _⟩) ?post1)
  case fin1 =>
   rintro⟨o1,o',i',j',u,v⟩ st' ⟨h1,h2,h3⟩
   dsimp only at h1 h2 h3
   exact .inr ⟨h1,h2,by dsimp only;omega⟩
  case step1 =>
   rintro x' ⟨o1,o',i',j',u,v⟩ st' _ hx' ⟨rfl,⟨m,hi,hj,gs,rfl⟩,hp⟩
   dsimp only at m hi hj hp ⊢
   obtain⟨y,hy,hyl,hym⟩:=Jw hj
   obtain⟨z,hz,hzl,hzm⟩:=Jw (show i'<a.size by omega)
   refine wpS_bind (Zn hy (wpS_bind (Zn hz (wpS_bind (UX C hk (M.ub _ hym) (M.ua _ hzm) ?_)))))
   dsimp only
   cases hR:R y z with
   |true =>
    rw[if_pos rfl]
    refine wpS_bind (Zn hy ?_)
    have m2:=MLo.b1 C M m hyl (C.dropLe M.ua M.sa hzl (M.ub _ hym) (C.asy _ _ (M.ub _ hym) (M.ua _ hzm) hR))
    by_cases e1:j'+1=b.size
    ·rw[if_pos (by simpa using e1)]
     exact wpS_pure (.inl ⟨_,rfl,M.finA m2 (.inr e1) ⟨gs,rfl⟩⟩)
    ·rw[if_neg (by simpa using e1)]
     have J2:JLo R a b st (o'.push y) i' (j'+1) (Vq st gs):=⟨m2,hi,by omega,gs,rfl⟩
     split
     ·exact wpS_pure (.inr ⟨rfl,J2,by dsimp only;omega⟩)
     ·exact wpS_pure ⟨rfl,J2,by dsimp only;omega⟩
   |false =>
    rw[if_neg (by decide)]
    refine wpS_bind (Zn hz ?_)
    have m2:=MLo.a1 C M m hzl (C.dropLe M.ub M.sb hyl (M.ua _ hzm) hR)
    by_cases e1:i'+1+1=a.size
    ·rw[if_pos (by simpa using e1)]
     exact wpS_pure (.inl ⟨_,rfl,M.finB m2 e1 ⟨gs,rfl⟩⟩)
    ·rw[if_neg (by simpa using e1)]
     have J2:JLo R a b st (o'.push z) (i'+1) j' (Vq st gs):=⟨m2,by omega,hj,gs,rfl⟩
     split
     ·exact wpS_pure (.inr ⟨rfl,J2,by dsimp only;omega⟩)
     ·exact wpS_pure ⟨rfl,J2,by dsimp only;omega⟩
  case post1 =>
   rintro⟨o1,o',i',j',u,v⟩ st' (⟨r,h1,h2⟩|⟨h1,h2,h3⟩)
   ·dsimp only at h1 h2 ⊢
    subst h1
    exact wpS_pure ⟨r,rfl,h2⟩
   ·dsimp only at h1 h2 h3 ⊢
    subst h1
    refine wpS_bind (wpS_lift (wpAny_rule ⟨rfl, ?_⟩))
    refine wpS_bind (wpS_mono (wpS_forRange
     (I:=fun _ (c:Option (Array Keyed)×Array Keyed×Nat×Nat×Nat×Nat×Nat) (st':SortSt)=>c.1=none/\JLo R a b st c.2.1 c.2.2.1 c.2.2.2.1 st'/\x+1+1<=c.2.2.1+c.2.2.2.1)
     (Q:=fun(c:Option (Array Keyed)×Array Keyed×Nat×Nat×Nat×Nat×Nat) (st':SortSt)=>(∃r,c.1=some r/\U7 R a b st r st')\/(c.1=none/\JLo R a b st c.2.1 c.2.2.1 c.2.2.2.1 st'/\x+1+1<=c.2.2.1+c.2.2.2.1)) ?step2 (fun c st' hc=>.inr hc) ⟨rfl,h2,by dsimp only;omega⟩) ?post2)
    case post2 =>
     rintro⟨o1,o',i',j',g',u,v⟩ st' (⟨r,h1,h2⟩|⟨h1,h2,h3⟩)
     ·dsimp only at h1 h2 ⊢
      subst h1
      exact wpS_pure ⟨r,rfl,h2⟩
     ·dsimp only at h1 h2 h3 ⊢
      subst h1
      obtain⟨m,hi,hj,gs,rfl⟩:=h2
      exact wpS_bind (V7 (wpS_pure ⟨rfl,⟨m,hi,hj,_,rfl⟩,by dsimp only;omega⟩))
    case step2 =>
     clear h2 h3 J hm m0 m1
     rintro x' ⟨o1,o,i,j,g,u,v⟩ st' _ hx' ⟨rfl,⟨m,hi,hj,gs,rfl⟩,hp⟩
     dsimp only at m hi hj hp ⊢
     obtain⟨y,hy,hyl,hym⟩:=Jw hj
     by_cases hg1:g>1
     ·rw[if_pos hg1]
      refine wpS_bind (V7 ?_)
      refine wpS_bind (Zn hy (wpS_bind (ZK C (show kindOf (Vq _ _)=κ from hk) (Zhf C M.ua M.sa (M.ub _ hym) (show i<=a.size by omega)) (by omega) fun k p1 p2 p3=>?_)))
      dsimp only
      have fb2:∀z∈a.toList.drop (i+k),R z y=false:=fun z hz=>by
       obtain⟨t,ht⟩:=J1 hz
       have hl:=(ZtC.mp ht).1
       rw[ZtH] at hl
       have:=p3 (k+t) (by omega) (by omega)
       rw[show i+(k+t)=i+k+t by omega,ZO ht] at this
       exact C.asy _ _ (M.ub _ hym) (M.ua _ (ZtA ht)) (by simpa using this)
      by_cases hk1:k>0
      ·rw[if_pos hk1]
       have m2:=m.pushA M.sa k (by rw[ZtH];omega) (fun x hx z hz=>by
        obtain⟨t,htk,ht⟩:=U2 hx
        have h1:=p2 t htk
        rw[ZO ht] at h1
        exact C.dropLe M.ub M.sb hyl (M.ua x (ZtA ht)) (by simpa using h1) z hz)
       rw[<- Ux] at m2
       by_cases e0:i+k+1=a.size
       ·rw[if_pos (by simpa using e0)]
        exact wpS_pure (.inl ⟨_,rfl,M.finB m2 e0 ⟨_,rfl⟩⟩)
       rw[if_neg (by simpa using e0)]
       by_cases e1:i+k=a.size
       ·rw[if_pos (by simpa using e1)]
        exact wpS_pure (.inl ⟨_,rfl,M.finA m2 (.inl e1) ⟨_,rfl⟩⟩)
       rw[if_neg (by simpa using e1)]
       have fb:=fb2
       refine wpS_bind (Zn hy ?_)
       have m2':=MLo.b1 C M m2 hyl fb
       by_cases e2:j+1=b.size
       ·rw[if_pos (by simpa using e2)]
        exact wpS_pure (.inl ⟨_,rfl,M.finA m2' (.inr e2) ⟨_,rfl⟩⟩)
       rw[if_neg (by simpa using e2)]
       obtain⟨z,hz,hzl,hzm⟩:=Jw (show i+k<a.size by omega)
       refine wpS_bind (Zn hz (wpS_bind (ZK C hk (Zbi C M.ub M.sb (M.ua _ hzm) (show j+1<=b.size by omega)) (by omega) fun k2 q1 q2 q3=>?_)))
       dsimp only
       have fz2:∀y∈b.toList.drop (j+1+k2),R y z=false:=fun y hy=>by
        obtain⟨t,ht⟩:=J1 hy
        have hl:=(ZtC.mp ht).1
        rw[ZtH] at hl
        have:=q3 (k2+t) (by omega) (by omega)
        rw[show j+1+(k2+t)=j+1+k2+t by omega,ZO ht] at this
        exact this
       by_cases hk2:k2>0
       ·rw[if_pos hk2]
        have m3:=m2'.pushB M.sb k2 (by rw[ZtH];omega) (fun x hx y hy=>by
         obtain⟨t,htk,ht⟩:=U2 hx
         have h1:=q2 t htk
         rw[ZO ht] at h1
         have ux:=M.ub x (ZtA ht)
         have h2:=C.dropLe M.ua M.sa hzl ux (C.asy _ _ ux (M.ua _ hzm) h1)
         exact h2 y hy)
        rw[<- Ux] at m3
        by_cases e3:j+1+k2=b.size
        ·rw[if_pos (by simpa using e3)]
         exact wpS_pure (.inl ⟨_,rfl,M.finA m3 (.inr e3) ⟨_,rfl⟩⟩)
        rw[if_neg (by simpa using e3)]
        have hj3:j+1+k2<b.size:=by omega
        have fz:=fz2
        refine wpS_bind (Zn hz ?_)
        have m4:=MLo.a1 C M m3 hzl fz
        by_cases e4:i+k+1+1=a.size
        ·rw[if_pos (by simpa using e4)]
         exact wpS_pure (.inl ⟨_,rfl,M.finB m4 e4 ⟨_,rfl⟩⟩)
        ·rw[if_neg (by simpa using e4)]
         split
         ·exact wpS_pure (.inr ⟨rfl,⟨m4,by dsimp only;omega,hj3,_,rfl⟩,by dsimp only;omega⟩)
         ·exact wpS_pure ⟨rfl,⟨m4,by dsimp only;omega,hj3,_,rfl⟩,by dsimp only;omega⟩
       ·rw[if_neg hk2]
        obtain rfl:k2=0:=by omega
        have m3:=m2'
        have hj3:j+1<b.size:=by omega
        have fz:∀y∈b.toList.drop (j+1),R y z=false:=fz2
        refine wpS_bind (Zn hz ?_)
        have m4:=MLo.a1 C M m3 hzl fz
        by_cases e4:i+k+1+1=a.size
        ·rw[if_pos (by simpa using e4)]
         exact wpS_pure (.inl ⟨_,rfl,M.finB m4 e4 ⟨_,rfl⟩⟩)
        ·rw[if_neg (by simpa using e4)]
         split
         ·exact wpS_pure (.inr ⟨rfl,⟨m4,by dsimp only;omega,hj3,_,rfl⟩,by dsimp only;omega⟩)
         ·exact wpS_pure ⟨rfl,⟨m4,by dsimp only;omega,hj3,_,rfl⟩,by dsimp only;omega⟩
      ·rw[if_neg hk1]
       obtain rfl:k=0:=by omega
       have m2:=m
       have fb:∀z∈a.toList.drop i,R z y=false:=fb2
       refine wpS_bind (Zn hy ?_)
       have m2':=MLo.b1 C M m2 hyl fb
       by_cases e2:j+1=b.size
       ·rw[if_pos (by simpa using e2)]
        exact wpS_pure (.inl ⟨_,rfl,M.finA m2' (.inr e2) ⟨_,rfl⟩⟩)
       rw[if_neg (by simpa using e2)]
       obtain⟨z,hz,hzl,hzm⟩:=Jw (show i<a.size by omega)
       refine wpS_bind (Zn hz (wpS_bind (ZK C hk (Zbi C M.ub M.sb (M.ua _ hzm) (show j+1<=b.size by omega)) (by omega) fun k2 q1 q2 q3=>?_)))
       dsimp only
       have fz2:∀y∈b.toList.drop (j+1+k2),R y z=false:=fun y hy=>by
        obtain⟨t,ht⟩:=J1 hy
        have hl:=(ZtC.mp ht).1
        rw[ZtH] at hl
        have:=q3 (k2+t) (by omega) (by omega)
        rw[show j+1+(k2+t)=j+1+k2+t by omega,ZO ht] at this
        exact this
       by_cases hk2:k2>0
       ·rw[if_pos hk2]
        have m3:=m2'.pushB M.sb k2 (by rw[ZtH];omega) (fun x hx y hy=>by
         obtain⟨t,htk,ht⟩:=U2 hx
         have h1:=q2 t htk
         rw[ZO ht] at h1
         have ux:=M.ub x (ZtA ht)
         have h2:=C.dropLe M.ua M.sa hzl ux (C.asy _ _ ux (M.ua _ hzm) h1)
         exact h2 y hy)
        rw[<- Ux] at m3
        by_cases e3:j+1+k2=b.size
        ·rw[if_pos (by simpa using e3)]
         exact wpS_pure (.inl ⟨_,rfl,M.finA m3 (.inr e3) ⟨_,rfl⟩⟩)
        rw[if_neg (by simpa using e3)]
        have hj3:j+1+k2<b.size:=by omega
        have fz:=fz2
        refine wpS_bind (Zn hz ?_)
        have m4:=MLo.a1 C M m3 hzl fz
        by_cases e4:i+1+1=a.size
        ·rw[if_pos (by simpa using e4)]
         exact wpS_pure (.inl ⟨_,rfl,M.finB m4 e4 ⟨_,rfl⟩⟩)
        ·rw[if_neg (by simpa using e4)]
         split
         ·exact wpS_pure (.inr ⟨rfl,⟨m4,by dsimp only;omega,hj3,_,rfl⟩,by dsimp only;omega⟩)
         ·exact wpS_pure ⟨rfl,⟨m4,by dsimp only;omega,hj3,_,rfl⟩,by dsimp only;omega⟩
       ·rw[if_neg hk2]
        obtain rfl:k2=0:=by omega
        have m3:=m2'
        have hj3:j+1<b.size:=by omega
        have fz:∀y∈b.toList.drop (j+1),R y z=false:=fz2
        refine wpS_bind (Zn hz ?_)
        have m4:=MLo.a1 C M m3 hzl fz
        by_cases e4:i+1+1=a.size
        ·rw[if_pos (by simpa using e4)]
         exact wpS_pure (.inl ⟨_,rfl,M.finB m4 e4 ⟨_,rfl⟩⟩)
        ·rw[if_neg (by simpa using e4)]
         split
         ·exact wpS_pure (.inr ⟨rfl,⟨m4,by dsimp only;omega,hj3,_,rfl⟩,by dsimp only;omega⟩)
         ·exact wpS_pure ⟨rfl,⟨m4,by dsimp only;omega,hj3,_,rfl⟩,by dsimp only;omega⟩
     ·rw[if_neg hg1]
      refine wpS_bind (V7 ?_)
      refine wpS_bind (Zn hy (wpS_bind (ZK C (show kindOf (Vq _ _)=κ from hk) (Zhf C M.ua M.sa (M.ub _ hym) (show i<=a.size by omega)) (by omega) fun k p1 p2 p3=>?_)))
      dsimp only
      have fb2:∀z∈a.toList.drop (i+k),R z y=false:=fun z hz=>by
       obtain⟨t,ht⟩:=J1 hz
       have hl:=(ZtC.mp ht).1
       rw[ZtH] at hl
       have:=p3 (k+t) (by omega) (by omega)
       rw[show i+(k+t)=i+k+t by omega,ZO ht] at this
       exact C.asy _ _ (M.ub _ hym) (M.ua _ (ZtA ht)) (by simpa using this)
      by_cases hk1:k>0
      ·rw[if_pos hk1]
       have m2:=m.pushA M.sa k (by rw[ZtH];omega) (fun x hx z hz=>by
        obtain⟨t,htk,ht⟩:=U2 hx
        have h1:=p2 t htk
        rw[ZO ht] at h1
        exact C.dropLe M.ub M.sb hyl (M.ua x (ZtA ht)) (by simpa using h1) z hz)
       rw[<- Ux] at m2
       by_cases e0:i+k+1=a.size
       ·rw[if_pos (by simpa using e0)]
        exact wpS_pure (.inl ⟨_,rfl,M.finB m2 e0 ⟨_,rfl⟩⟩)
       rw[if_neg (by simpa using e0)]
       by_cases e1:i+k=a.size
       ·rw[if_pos (by simpa using e1)]
        exact wpS_pure (.inl ⟨_,rfl,M.finA m2 (.inl e1) ⟨_,rfl⟩⟩)
       rw[if_neg (by simpa using e1)]
       have fb:=fb2
       refine wpS_bind (Zn hy ?_)
       have m2':=MLo.b1 C M m2 hyl fb
       by_cases e2:j+1=b.size
       ·rw[if_pos (by simpa using e2)]
        exact wpS_pure (.inl ⟨_,rfl,M.finA m2' (.inr e2) ⟨_,rfl⟩⟩)
       rw[if_neg (by simpa using e2)]
       obtain⟨z,hz,hzl,hzm⟩:=Jw (show i+k<a.size by omega)
       refine wpS_bind (Zn hz (wpS_bind (ZK C hk (Zbi C M.ub M.sb (M.ua _ hzm) (show j+1<=b.size by omega)) (by omega) fun k2 q1 q2 q3=>?_)))
       dsimp only
       have fz2:∀y∈b.toList.drop (j+1+k2),R y z=false:=fun y hy=>by
        obtain⟨t,ht⟩:=J1 hy
        have hl:=(ZtC.mp ht).1
        rw[ZtH] at hl
        have:=q3 (k2+t) (by omega) (by omega)
        rw[show j+1+(k2+t)=j+1+k2+t by omega,ZO ht] at this
        exact this
       by_cases hk2:k2>0
       ·rw[if_pos hk2]
        have m3:=m2'.pushB M.sb k2 (by rw[ZtH];omega) (fun x hx y hy=>by
         obtain⟨t,htk,ht⟩:=U2 hx
         have h1:=q2 t htk
         rw[ZO ht] at h1
         have ux:=M.ub x (ZtA ht)
         have h2:=C.dropLe M.ua M.sa hzl ux (C.asy _ _ ux (M.ua _ hzm) h1)
         exact h2 y hy)
        rw[<- Ux] at m3
        by_cases e3:j+1+k2=b.size
        ·rw[if_pos (by simpa using e3)]
         exact wpS_pure (.inl ⟨_,rfl,M.finA m3 (.inr e3) ⟨_,rfl⟩⟩)
        rw[if_neg (by simpa using e3)]
        have hj3:j+1+k2<b.size:=by omega
        have fz:=fz2
        refine wpS_bind (Zn hz ?_)
        have m4:=MLo.a1 C M m3 hzl fz
        by_cases e4:i+k+1+1=a.size
        ·rw[if_pos (by simpa using e4)]
         exact wpS_pure (.inl ⟨_,rfl,M.finB m4 e4 ⟨_,rfl⟩⟩)
        ·rw[if_neg (by simpa using e4)]
         split
         ·exact wpS_pure (.inr ⟨rfl,⟨m4,by dsimp only;omega,hj3,_,rfl⟩,by dsimp only;omega⟩)
         ·exact wpS_pure ⟨rfl,⟨m4,by dsimp only;omega,hj3,_,rfl⟩,by dsimp only;omega⟩
       ·rw[if_neg hk2]
        obtain rfl:k2=0:=by omega
        have m3:=m2'
        have hj3:j+1<b.size:=by omega
        have fz:∀y∈b.toList.drop (j+1),R y z=false:=fz2
        refine wpS_bind (Zn hz ?_)
        have m4:=MLo.a1 C M m3 hzl fz
        by_cases e4:i+k+1+1=a.size
        ·rw[if_pos (by simpa using e4)]
         exact wpS_pure (.inl ⟨_,rfl,M.finB m4 e4 ⟨_,rfl⟩⟩)
        ·rw[if_neg (by simpa using e4)]
         split
         ·exact wpS_pure (.inr ⟨rfl,⟨m4,by dsimp only;omega,hj3,_,rfl⟩,by dsimp only;omega⟩)
         ·exact wpS_pure ⟨rfl,⟨m4,by dsimp only;omega,hj3,_,rfl⟩,by dsimp only;omega⟩
      ·rw[if_neg hk1]
       obtain rfl:k=0:=by omega
       have m2:=m
       have fb:∀z∈a.toList.drop i,R z y=false:=fb2
       refine wpS_bind (Zn hy ?_)
       have m2':=MLo.b1 C M m2 hyl fb
       by_cases e2:j+1=b.size
       ·rw[if_pos (by simpa using e2)]
        exact wpS_pure (.inl ⟨_,rfl,M.finA m2' (.inr e2) ⟨_,rfl⟩⟩)
       rw[if_neg (by simpa using e2)]
       obtain⟨z,hz,hzl,hzm⟩:=Jw (show i<a.size by omega)
       refine wpS_bind (Zn hz (wpS_bind (ZK C hk (Zbi C M.ub M.sb (M.ua _ hzm) (show j+1<=b.size by omega)) (by omega) fun k2 q1 q2 q3=>?_)))
       dsimp only
       have fz2:∀y∈b.toList.drop (j+1+k2),R y z=false:=fun y hy=>by
        obtain⟨t,ht⟩:=J1 hy
        have hl:=(ZtC.mp ht).1
        rw[ZtH] at hl
        have:=q3 (k2+t) (by omega) (by omega)
        rw[show j+1+(k2+t)=j+1+k2+t by omega,ZO ht] at this
        exact this
       by_cases hk2:k2>0
       ·rw[if_pos hk2]
        have m3:=m2'.pushB M.sb k2 (by rw[ZtH];omega) (fun x hx y hy=>by
         obtain⟨t,htk,ht⟩:=U2 hx
         have h1:=q2 t htk
         rw[ZO ht] at h1
         have ux:=M.ub x (ZtA ht)
         have h2:=C.dropLe M.ua M.sa hzl ux (C.asy _ _ ux (M.ua _ hzm) h1)
         exact h2 y hy)
        rw[<- Ux] at m3
        by_cases e3:j+1+k2=b.size
        ·rw[if_pos (by simpa using e3)]
         exact wpS_pure (.inl ⟨_,rfl,M.finA m3 (.inr e3) ⟨_,rfl⟩⟩)
        rw[if_neg (by simpa using e3)]
        have hj3:j+1+k2<b.size:=by omega
        have fz:=fz2
        refine wpS_bind (Zn hz ?_)
        have m4:=MLo.a1 C M m3 hzl fz
        by_cases e4:i+1+1=a.size
        ·rw[if_pos (by simpa using e4)]
         exact wpS_pure (.inl ⟨_,rfl,M.finB m4 e4 ⟨_,rfl⟩⟩)
        ·rw[if_neg (by simpa using e4)]
         split
         ·exact wpS_pure (.inr ⟨rfl,⟨m4,by dsimp only;omega,hj3,_,rfl⟩,by dsimp only;omega⟩)
         ·exact wpS_pure ⟨rfl,⟨m4,by dsimp only;omega,hj3,_,rfl⟩,by dsimp only;omega⟩
       ·rw[if_neg hk2]
        obtain rfl:k2=0:=by omega
        have m3:=m2'
        have hj3:j+1<b.size:=by omega
        have fz:∀y∈b.toList.drop (j+1),R y z=false:=fz2
        refine wpS_bind (Zn hz ?_)
        have m4:=MLo.a1 C M m3 hzl fz
        by_cases e4:i+1+1=a.size
        ·rw[if_pos (by simpa using e4)]
         exact wpS_pure (.inl ⟨_,rfl,M.finB m4 e4 ⟨_,rfl⟩⟩)
        ·rw[if_neg (by simpa using e4)]
         split
         ·exact wpS_pure (.inr ⟨rfl,⟨m4,by dsimp only;omega,hj3,_,rfl⟩,by dsimp only;omega⟩)
         ·exact wpS_pure ⟨rfl,⟨m4,by dsimp only;omega,hj3,_,rfl⟩,by dsimp only;omega⟩
end
noncomputable def Za2:Array Keyed->Array Keyed->StateT SortSt Sem (Array Keyed):=sortPriv% PySem.Builtin.mergeHi
noncomputable def hiA (a b o:Array Keyed) (i j:Nat):Array Keyed:=a.extract 0 i++b.extract 0 j++o.reverse
noncomputable def hiB (a b o:Array Keyed) (i j:Nat):Array Keyed:=b.extract 0 j++a.extract 0 i++o.reverse
theorem Zci (a b:Array Keyed):Za2 a b=(do
  rule "list.sort.merge-hi"
  let n:=a.size+b.size
  let mut i:=a.size-1
  let mut j:=b.size
  let mut o:Array Keyed:=#[<- elem' a i]
  if i==0 then return hiA a b o i j
  if j==1 then return hiB a b o i j
  let mut g:=gallopOf (<- get)
  for _ in [0:n] do
   let mut x:=0
   let mut y:=0
   for _ in [0:n] do
    let some t <- lt' (<- elem' b (j-1)) (<- elem' a (i-1))|return hiA a b o i j
    if t then
     i:=i-1;o:=o.push (<- elem' a i);x:=x+1;y:=0
     if i==0 then return hiA a b o i j
     if x ≥ g then break
    else
     j:=j-1;o:=o.push (<- elem' b j);y:=y+1;x:=0
     if j==1 then return hiB a b o i j
     if y ≥ g then break
   rule "list.sort.gallop"
   g:=g+1
   for _ in [0:n] do
    if g>1 then g:=g-1
    Zky g
    let some q <- V2 false (<- elem' b (j-1)) a 0 i (i-1)|return hiA a b o i j
    let k:=i-q
    x:=k
    if k>0 then
     o:=o++(a.extract q i).reverse;i:=q
     if i==0 then return hiA a b o i j
    j:=j-1;o:=o.push (<- elem' b j)
    if j==1 then return hiB a b o i j
    let some q <- V2 true (<- elem' a (i-1)) b 0 j (j-1)|return hiA a b o i j
    let k:=j-q
    y:=k
    if k>0 then
     o:=o++(b.extract q j).reverse;j:=q
     if j==1 then return hiB a b o i j
     if j==0 then return hiA a b o i j
    i:=i-1;o:=o.push (<- elem' a i)
    if i==0 then return hiA a b o i j
    if x<7&&y<7 then break
   g:=g+1
   Zky g
  unsupported "internal:list.sort.merge-bound"):=rfl
structure MH (R:Keyed->Keyed->Bool) (a b q:List Keyed) (i j:Nat):Prop where
 perm:q.Perm (a.drop i++b.drop j)
 srt:Srt R q
 ga:∀x∈a.take i,∀y∈q,R y x=false
 gb:∀x∈b.take j,∀y∈q,R y x=false
 hi:i<=a.length
 hj:j<=b.length
section
variable {R:Keyed->Keyed->Bool}{a b q:List Keyed}{i j:Nat}
theorem JZ (l:List Keyed) {c i:Nat} (h:c<=i):l.take c++(l.take i).drop c=l.take i:=by
 rw[show l.take c=(l.take i).take c by rw[List.take_take,Nat.min_eq_left h]]
 exact ZtW c (l.take i)
theorem Zad (l:List Keyed) {c i:Nat} (h:c<=i):(l.take i).drop c++l.drop i=l.drop c:=by
 have e:l.take c++((l.take i).drop c++l.drop i)=l.take c++l.drop c:=by
  rw[<- ZtK,JZ l h,ZtW,ZtW]
 exact List.append_cancel_left e
theorem Srt.take {l:List Keyed} (h:Srt R l) (i:Nat):Srt R (l.take i):=h.sublist (List.take_sublist i l)
theorem MH.pushA (M:MH R a b q i j) (sa:Srt R a) {c:Nat} (hc:c<=i) (hle:∀x∈b.take j,∀y∈(a.take i).drop c,R y x=false):MH R a b ((a.take i).drop c++q) c j:=by
 have sd:=sa.take i
 rw[<- JZ a hc] at sd
 obtain⟨s1,s2,s3⟩:=ZtO.mp sd
 refine⟨?_, ?_, ?_, ?_,ZtV hc M.hi,M.hj⟩
 ·refine(List.Perm.append_left _ M.perm).trans ?_
  rw[<- ZtK,Zad a hc]
 ·exact ZtO.mpr ⟨s2,M.srt,fun x hx y hy=>M.ga x (Zuf hx) y hy⟩
 ·intro x hx y hy
  rcases ZtD.mp hy with hy|hy
  ·exact s3 x hx y hy
  ·exact M.ga x (by rw[<- JZ a hc];exact ZtF _ hx) y hy
 ·intro x hx y hy
  rcases ZtD.mp hy with hy|hy
  ·exact hle x hx y hy
  ·exact M.gb x hx y hy
theorem MH.pushB (M:MH R a b q i j) (sb:Srt R b) {c:Nat} (hc:c<=j) (hle:∀x∈a.take i,∀y∈(b.take j).drop c,R y x=false):MH R a b ((b.take j).drop c++q) i c:=by
 have sd:=sb.take j
 rw[<- JZ b hc] at sd
 obtain⟨s1,s2,s3⟩:=ZtO.mp sd
 refine⟨?_, ?_, ?_, ?_,M.hi,ZtV hc M.hj⟩
 ·refine(List.Perm.append_left _ M.perm).trans ?_
  rw[<- Zad b hc]
  have:∀X Y Z:List Keyed,(X++(Y++Z)).Perm (Y++(X++Z)):=fun X Y Z=>by
   rw[<- ZtK,<- ZtK]
   exact List.Perm.append_right _ ZuA
  exact this _ _ _
 ·exact ZtO.mpr ⟨s2,M.srt,fun x hx y hy=>M.gb x (Zuf hx) y hy⟩
 ·intro x hx y hy
  rcases ZtD.mp hy with hy|hy
  ·exact hle x hx y hy
  ·exact M.ga x hx y hy
 ·intro x hx y hy
  rcases ZtD.mp hy with hy|hy
  ·exact s3 x hx y hy
  ·exact M.gb x (by rw[<- JZ b hc];exact ZtF _ hx) y hy
theorem MH.all_perm (M:MH R a b q i j):(a.take i++(b.take j++q)).Perm (a++b):=by
 refine(List.Perm.append_left _ (List.Perm.append_left _ M.perm)).trans ?_
 have p1:∀X Y Z W:List Keyed,(X++(Y++(Z++W))).Perm ((X++Z)++(Y++W)):=fun X Y Z W=>by
  rw[ZtK]
  refine List.Perm.append_left _ ?_
  rw[<- ZtK,<- ZtK]
  exact List.Perm.append_right _ ZuA
 refine(p1 _ _ _ _).trans ?_
 rw[ZtW,ZtW]
theorem MH.endA (M:MH R a b q i j) (sa:Srt R a) (sb:Srt R b) (h:i=0\/j=0):Srt R (a.take i++(b.take j++q))/\(a.take i++(b.take j++q)).Perm (a++b):=by
 refine⟨?_,M.all_perm⟩
 have sq:Srt R (b.take j++q):=ZtO.mpr ⟨sb.take j,M.srt,M.gb⟩
 refine ZtO.mpr ⟨sa.take i,sq,fun x hx y hy=>?_⟩
 rcases h with h|h
 ·rw[h,List.take_zero] at hx;simp at hx
 ·rw[h,List.take_zero,ZuC] at hy
  exact M.ga x hx y hy
theorem MH.endB (M:MH R a b q i j) (sa:Srt R a) (sb:Srt R b) (h:∀x∈b.take j,∀y∈a.take i,R y x=false):Srt R (b.take j++(a.take i++q))/\(b.take j++(a.take i++q)).Perm (a++b):=by
 refine⟨?_, ?_⟩
 ·refine ZtO.mpr ⟨sb.take j,ZtO.mpr ⟨sa.take i,M.srt,M.ga⟩,fun x hx y hy=>?_⟩
  rcases ZtD.mp hy with hy|hy
  ·exact h x hx y hy
  ·exact M.gb x hx y hy
 ·refine List.Perm.trans ?_ M.all_perm
  rw[<- ZtK,<- ZtK]
  exact List.Perm.append_right _ ZuA
end
section
variable {prog:Program}{w:World}{A:Around}{E:Value->Shared->Prop}{s:Shared}{κ:SortKind}{U:Keyed->Prop}{R:Keyed->Keyed->Bool}
theorem UB.le {left:Bool}{key:Keyed}{arr:Array Keyed}{base n m:Nat}{P:Nat->Bool} (K:UB U R left key arr base m P) (h:n<=m):UB U R left key arr base n P:=
 ⟨K.uk,fun i hi=>K.it i (by omega),fun i j h1 h2 h3=>K.mono i j h1 (by omega) h3⟩
theorem Ut.takeLe (C:Ut prog w A s κ U R) {l:List Keyed}{n:Nat}{v z:Keyed} (ul:∀y∈l,U y) (hs:Srt R l) (hn:0<n) (hz:l[n-1]?=some z) (uv:U v) (h:R v z=false):∀x∈l.take n,R v x=false:=fun x hx=>by
 obtain⟨t,ht⟩:=Zu4 hx
 rw[Zuq] at ht
 split at ht
 ·rename_i htn
  have h1:=Srt.le C ul hs (show t<=n-1 by omega) ht hz
  exact C.tr x z v (ul x (ZtA ht)) (ul z (ZtA hz)) uv h1 h
 ·cases ht
theorem Ud {l:List Keyed}{i:Nat}{x:Keyed} (h:x∈l.take i):∃t,t<i/\l[t]?=some x:=by
 obtain⟨t,ht⟩:=Zu4 h
 rw[Zuq] at ht
 split at ht
 ·rename_i hi;exact⟨t,hi,ht⟩
 ·cases ht
theorem V9 {l:List Keyed}{i c:Nat}{x:Keyed} (h:x∈(l.take i).drop c):∃t,(c<=t/\t<i)/\l[t]?=some x:=by
 obtain⟨t,ht⟩:=Zu4 h
 rw[Zut,Zuq] at ht
 split at ht
 ·rename_i hi;exact⟨c+t,by omega,ht⟩
 ·cases ht
theorem UM {l:List Keyed}{i:Nat}{x:Keyed} (hi:0<i) (h:l[i-1]?=some x):(l.take i).drop (i-1)=[x]:=by
 have hl:=ZtC.mp h
 have e:(l.take i)[i-1]?=some x:=by rw[Zuq,if_pos (by omega),h]
 have h2:=ZtC.mp e
 rw[ZtS h2.1,h2.2,Zu7 (by rw[ZtR];omega)]
theorem ZiI (a b o:Array Keyed) (i j:Nat):(hiA a b o i j).toList=a.toList.take i++(b.toList.take j++o.toList.reverse):=by
 simp[hiA,ZtK,Zul]
theorem ZiH (a b o:Array Keyed) (i j:Nat):(hiB a b o i j).toList=b.toList.take j++(a.toList.take i++o.toList.reverse):=by
 simp[hiB,ZtK,Zul]
theorem Uw (l o:Array Keyed) (q i:Nat):(o++(l.extract q i).reverse).toList.reverse=(l.toList.take i).drop q++o.toList.reverse:=by
 simp[Zul,List.drop_take]
theorem ZcM (o:Array Keyed) (x:Keyed):(o.push x).toList.reverse=[x]++o.toList.reverse:=by simp
def JHi (R:Keyed->Keyed->Bool) (a b:Array Keyed) (st:SortSt) (o:Array Keyed) (i j:Nat) (st':SortSt):Prop:=MH R a.toList b.toList o.toList.reverse i j/\0<i/\1<j/\∃g,st'=Vq st g
section
variable {st st':SortSt}{a b o:Array Keyed}{i j:Nat}
theorem MLo.hfA (M:MLo U R a b) (m:MH R a.toList b.toList o.toList.reverse i j) (h:i=0\/j=0) (hg:∃g,st'=Vq st g):U7 R a b st (hiA a b o i j) st':=by
 obtain⟨h1,h2⟩:=m.endA M.sa M.sb h
 rw[<- ZiI] at h1 h2
 exact⟨h1,h2,hg⟩
theorem MLo.hfB (C:Ut prog w A s κ U R) (M:MLo U R a b) (m:MH R a.toList b.toList o.toList.reverse i j) (h:j=1) (hg:∃g,st'=Vq st g):U7 R a b st (hiB a b o i j) st':=by
 obtain⟨a0,ha0,ha0l,ha0m⟩:=Jw M.na
 obtain⟨h1,h2⟩:=m.endB M.sa M.sb fun x hx y hy=>by
  obtain⟨t,ht,hx⟩:=Ud hx
  have ht0:t=0:=by omega
  rw[ht0] at hx
  have:=C.dropLe M.ua M.sa ha0l (M.ub _ (ZtA hx)) (M.fst _ _ hx ha0l)
  rw[ZuQ] at this
  exact this y (Zuc hy)
 rw[<- ZiH] at h1 h2
 exact⟨h1,h2,hg⟩
theorem MLo.ha1 (M:MLo U R a b) (m:MH R a.toList b.toList o.toList.reverse i j) {x:Keyed} (hi:0<i) (hx:a.toList[i-1]?=some x) (hle:∀y∈b.toList.take j,R x y=false):MH R a.toList b.toList (o.push x).toList.reverse (i-1) j:=by
 have:=m.pushA M.sa (c:=i-1) (by omega) (by rw[UM hi hx];intro y hy z hz;rw[ZtQ.mp hz];exact hle y hy)
 rw[UM hi hx] at this
 rw[ZcM];exact this
theorem MLo.hb1 (M:MLo U R a b) (m:MH R a.toList b.toList o.toList.reverse i j) {x:Keyed} (hj:0<j) (hx:b.toList[j-1]?=some x) (hle:∀y∈a.toList.take i,R x y=false):MH R a.toList b.toList (o.push x).toList.reverse i (j-1):=by
 have:=m.pushB M.sb (c:=j-1) (by omega) (by rw[UM hj hx];intro y hy z hz;rw[ZtQ.mp hz];exact hle y hy)
 rw[UM hj hx] at this
 rw[ZcM];exact this
end
theorem ZbQ (C:Ut prog w A s κ U R) {st:SortSt}{a b:Array Keyed}{Q:Array Keyed->SortSt->Prop} (hk:kindOf st=κ) (M:MLo U R a b)
  (h:∀o st',U7 R a b st o st'->Q o st'):wpS (model prog w) A E s (Za2 a b) Q st:=by
 rw[Zci]
 have na:=M.na
 have nb:=M.nb
 obtain⟨al,hal,hall,halm⟩:=Jw (show a.size-1<a.size by omega)
 refine wpS_bind (wpS_lift (wpAny_rule ⟨rfl, ?_⟩))
 refine wpS_bind (Zn hal ?_)
 dsimp only
 have m0:MH R a.toList b.toList (#[]:Array Keyed).toList.reverse a.size b.size:=⟨by simp,List.Pairwise.nil,fun x _ y hy=>by simp at hy,fun x _ y hy=>by simp at hy,by simp,by simp⟩
 have m1:MH R a.toList b.toList (#[al]:Array Keyed).toList.reverse (a.size-1) b.size:=M.ha1 m0 na hall fun y hy=>M.lst y (Zuc hy) al hall
 have g0:∃g,st=Vq st g:=⟨gallopOf st,rfl⟩
 by_cases c1:a.size-1=0
 ·rw[if_pos (by simpa using c1)]
  exact wpS_pure (h _ _ (M.hfA m1 (.inl c1) g0))
 rw[if_neg (by simpa using c1)]
 by_cases c2:b.size=1
 ·rw[if_pos (by simpa using c2)]
  exact wpS_pure (h _ _ (MLo.hfB C M m1 c2 g0))
 rw[if_neg (by simpa using c2)]
 refine wpS_bind (wpS_get ?_)
 refine wpS_bind (wpS_mono (wpS_forRange
  (I:=fun x (c:Option (Array Keyed)×Nat×Nat×Array Keyed×Nat) (st':SortSt)=>c.1=none/\JHi R a b st c.2.2.2.1 c.2.1 c.2.2.1 st'/\c.2.1+c.2.2.1+x+1<=a.size+b.size)
  (Q:=fun(c:Option (Array Keyed)×Nat×Nat×Array Keyed×Nat) (st':SortSt)=>∃r,c.1=some r/\U7 R a b st r st') ?step ?fin ⟨rfl,⟨m1,by dsimp only;omega,by dsimp only;omega,g0⟩,by dsimp only;omega⟩) ?post)
 case fin =>
  rintro⟨o1,i,j,o,g⟩ st' ⟨h1,⟨h2,h3,h4,h5⟩,h6⟩
  dsimp only at h3 h4 h6
  omega
 case post =>
  rintro⟨o1,i,j,o,g⟩ st' ⟨r,h1,h2⟩
  dsimp only at h1
  subst h1
  exact wpS_pure (h _ _ h2)
 case step =>
  rintro x ⟨o1,i,j,o,g⟩ st1 _ hx ⟨rfl,J,hm⟩
  dsimp only at J hm ⊢
  refine wpS_bind (wpS_mono (wpS_forRange
   (I:=fun x' (c:Option (Array Keyed)×Nat×Nat×Array Keyed×Nat×Nat) (st':SortSt)=>c.1=none/\JHi R a b st c.2.2.2.1 c.2.1 c.2.2.1 st'/\c.2.1+c.2.2.1+x'<=i+j)
   (Q:=fun(c:Option (Array Keyed)×Nat×Nat×Array Keyed×Nat×Nat) (st':SortSt)=>(∃r,c.1=some r/\U7 R a b st r st')\/(c.1=none/\JHi R a b st c.2.2.2.1 c.2.1 c.2.2.1 st'/\c.2.1+c.2.2.1+1<=i+j)) ?step1 ?fin1 ⟨rfl,J,ZtE _⟩) ?post1)
  case fin1 =>
   rintro⟨o1,i',j',o',u,v⟩ st' ⟨h1,h2,h3⟩
   dsimp only at h1 h2 h3
   exact .inr ⟨h1,h2,by dsimp only;omega⟩
  case step1 =>
   rintro x' ⟨o1,i',j',o',u,v⟩ st' _ hx' ⟨rfl,⟨m,hi,hj,gs,rfl⟩,hp⟩
   dsimp only at m hi hj hp ⊢
   have lia:=m.hi
   have ljb:=m.hj
   rw[ZtH] at lia ljb
   obtain⟨y,hy,hyl,hym⟩:=Jw (show j'-1<b.size by omega)
   obtain⟨z,hz,hzl,hzm⟩:=Jw (show i'-1<a.size by omega)
   refine wpS_bind (Zn hy (wpS_bind (Zn hz (wpS_bind (UX C hk (M.ub _ hym) (M.ua _ hzm) ?_)))))
   dsimp only
   cases hR:R y z with
   |true =>
    rw[if_pos rfl]
    refine wpS_bind (Zn hz ?_)
    have m2:=M.ha1 m hi hzl (C.takeLe M.ub M.sb (by omega) hyl (M.ua _ hzm) (C.asy _ _ (M.ub _ hym) (M.ua _ hzm) hR))
    by_cases e1:i'-1=0
    ·rw[if_pos (by simpa using e1)]
     exact wpS_pure (.inl ⟨_,rfl,M.hfA m2 (.inl e1) ⟨gs,rfl⟩⟩)
    ·rw[if_neg (by simpa using e1)]
     have J2:JHi R a b st (o'.push z) (i'-1) j' (Vq st gs):=⟨m2,by omega,hj,gs,rfl⟩
     split
     ·exact wpS_pure (.inr ⟨rfl,J2,by dsimp only;omega⟩)
     ·exact wpS_pure ⟨rfl,J2,by dsimp only;omega⟩
   |false =>
    rw[if_neg (by decide)]
    refine wpS_bind (Zn hy ?_)
    have m2:=M.hb1 m (by omega) hyl (C.takeLe M.ua M.sa hi hzl (M.ub _ hym) hR)
    by_cases e1:j'-1=1
    ·rw[if_pos (by simpa using e1)]
     exact wpS_pure (.inl ⟨_,rfl,MLo.hfB C M m2 e1 ⟨gs,rfl⟩⟩)
    ·rw[if_neg (by simpa using e1)]
     have J2:JHi R a b st (o'.push y) i' (j'-1) (Vq st gs):=⟨m2,hi,by omega,gs,rfl⟩
     split
     ·exact wpS_pure (.inr ⟨rfl,J2,by dsimp only;omega⟩)
     ·exact wpS_pure ⟨rfl,J2,by dsimp only;omega⟩
  case post1 =>
   rintro⟨o1,i',j',o',u,v⟩ st' (⟨r,h1,h2⟩|⟨h1,h2,h3⟩)
   ·dsimp only at h1 h2 ⊢
    subst h1
    exact wpS_pure ⟨r,rfl,h2⟩
   ·dsimp only at h1 h2 h3 ⊢
    subst h1
    refine wpS_bind (wpS_lift (wpAny_rule ⟨rfl, ?_⟩))
    refine wpS_bind (wpS_mono (wpS_forRange
     (I:=fun _ (c:Option (Array Keyed)×Nat×Nat×Array Keyed×Nat×Nat×Nat) (st':SortSt)=>c.1=none/\JHi R a b st c.2.2.2.1 c.2.1 c.2.2.1 st'/\c.2.1+c.2.2.1+(x+1)+1<=a.size+b.size)
     (Q:=fun(c:Option (Array Keyed)×Nat×Nat×Array Keyed×Nat×Nat×Nat) (st':SortSt)=>(∃r,c.1=some r/\U7 R a b st r st')\/(c.1=none/\JHi R a b st c.2.2.2.1 c.2.1 c.2.2.1 st'/\c.2.1+c.2.2.1+(x+1)+1<=a.size+b.size)) ?step2 (fun c st' hc=>.inr hc) ⟨rfl,h2,by dsimp only;omega⟩) ?post2)
    case post2 =>
     rintro⟨o1,i',j',o',g',u,v⟩ st' (⟨r,h1,h2⟩|⟨h1,h2,h3⟩)
     ·dsimp only at h1 h2 ⊢
      subst h1
      exact wpS_pure ⟨r,rfl,h2⟩
     ·dsimp only at h1 h2 h3 ⊢
      subst h1
      obtain⟨m,hi,hj,gs,rfl⟩:=h2
      exact wpS_bind (V7 (wpS_pure ⟨rfl,⟨m,hi,hj,_,rfl⟩,by dsimp only;omega⟩))
    case step2 =>
     clear h2 h3 J hm m0 m1
     rintro x' ⟨o1,i,j,o,g,u,v⟩ st' _ hx' ⟨rfl,⟨m,hi,hj,gs,rfl⟩,hp⟩
     dsimp only at m hi hj hp ⊢
     have lia:=m.hi
     have ljb:=m.hj
     rw[ZtH] at lia ljb
     obtain⟨y,hy,hyl,hym⟩:=Jw (show j-1<b.size by omega)
     by_cases hg1:g>1
     ·rw[if_pos hg1]
      refine wpS_bind (V7 ?_)
      refine wpS_bind (Zn hy (wpS_bind (ZK C (show kindOf (Vq _ _)=κ from hk) ((Zhf C M.ua M.sa (M.ub _ hym) (Zub a.size)).le (show i<=a.size-0 by omega)) (by omega) fun q1 p1 p2 p3=>?_)))
      dsimp only
      have fb2:∀z∈a.toList.take q1,R y z=false:=fun z hz=>by
       obtain⟨t,htk,ht⟩:=Ud hz
       have h1:=p2 t htk
       rw[Zuu,ZO ht] at h1
       simpa using h1
      by_cases hk1:i-q1>0
      ·rw[if_pos hk1]
       have m2:=m.pushA M.sa (c:=q1) (by omega) (fun x hx z hz=>by
        obtain⟨t,htk,ht⟩:=V9 hz
        have h1:=p3 t htk.1 htk.2
        rw[Zuu,ZO ht] at h1
        have uz:=M.ua z (ZtA ht)
        exact C.takeLe M.ub M.sb (by omega) hyl uz (C.asy _ _ (M.ub _ hym) uz (by simpa using h1)) x hx)
       rw[<- Uw] at m2
       by_cases e0:q1=0
       ·rw[if_pos (by simpa using e0)]
        exact wpS_pure (.inl ⟨_,rfl,M.hfA m2 (.inl e0) ⟨_,rfl⟩⟩)
       rw[if_neg (by simpa using e0)]
       have hi2:0<q1:=by omega
       have fb:=fb2
       refine wpS_bind (Zn hy ?_)
       have m2':=M.hb1 m2 (by omega) hyl fb
       by_cases e2:j-1=1
       ·rw[if_pos (by simpa using e2)]
        exact wpS_pure (.inl ⟨_,rfl,MLo.hfB C M m2' e2 ⟨_,rfl⟩⟩)
       rw[if_neg (by simpa using e2)]
       obtain⟨z,hz,hzl,hzm⟩:=Jw (show q1-1<a.size by omega)
       refine wpS_bind (Zn hz (wpS_bind (ZK C hk ((Zbi C M.ub M.sb (M.ua _ hzm) (Zub b.size)).le (show j-1<=b.size-0 by omega)) (by omega) fun q2 r1 r2 r3=>?_)))
       dsimp only
       have fz2:∀y∈b.toList.take q2,R z y=false:=fun y hy=>by
        obtain⟨t,htk,ht⟩:=Ud hy
        have h1:=r2 t htk
        rw[Zuu,ZO ht] at h1
        exact C.asy _ _ (M.ub _ (ZtA ht)) (M.ua _ hzm) h1
       by_cases hk2:j-1-q2>0
       ·rw[if_pos hk2]
        have m3:=m2'.pushB M.sb (c:=q2) (by omega) (fun x hx y hy=>by
         obtain⟨t,htk,ht⟩:=V9 hy
         have h1:=r3 t htk.1 htk.2
         rw[Zuu,ZO ht] at h1
         exact C.takeLe M.ua M.sa hi2 hzl (M.ub _ (ZtA ht)) h1 x hx)
        rw[<- Uw] at m3
        by_cases e3:q2=1
        ·rw[if_pos (by simpa using e3)]
         exact wpS_pure (.inl ⟨_,rfl,MLo.hfB C M m3 e3 ⟨_,rfl⟩⟩)
        rw[if_neg (by simpa using e3)]
        by_cases e5:q2=0
        ·rw[if_pos (by simpa using e5)]
         exact wpS_pure (.inl ⟨_,rfl,M.hfA m3 (.inr e5) ⟨_,rfl⟩⟩)
        rw[if_neg (by simpa using e5)]
        have hj3:1<q2:=by omega
        have fz:=fz2
        refine wpS_bind (Zn hz ?_)
        have m4:=M.ha1 m3 hi2 hzl fz
        by_cases e4:q1-1=0
        ·rw[if_pos (by simpa using e4)]
         exact wpS_pure (.inl ⟨_,rfl,M.hfA m4 (.inl e4) ⟨_,rfl⟩⟩)
        ·rw[if_neg (by simpa using e4)]
         split
         ·exact wpS_pure (.inr ⟨rfl,⟨m4,by dsimp only;omega,hj3,_,rfl⟩,by dsimp only;omega⟩)
         ·exact wpS_pure ⟨rfl,⟨m4,by dsimp only;omega,hj3,_,rfl⟩,by dsimp only;omega⟩
       ·rw[if_neg hk2]
        have hq2:q2=j-1:=by omega
        subst hq2
        have m3:=m2'
        have hj3:1<j-1:=by omega
        have fz:=fz2
        refine wpS_bind (Zn hz ?_)
        have m4:=M.ha1 m3 hi2 hzl fz
        by_cases e4:q1-1=0
        ·rw[if_pos (by simpa using e4)]
         exact wpS_pure (.inl ⟨_,rfl,M.hfA m4 (.inl e4) ⟨_,rfl⟩⟩)
        ·rw[if_neg (by simpa using e4)]
         split
         ·exact wpS_pure (.inr ⟨rfl,⟨m4,by dsimp only;omega,hj3,_,rfl⟩,by dsimp only;omega⟩)
         ·exact wpS_pure ⟨rfl,⟨m4,by dsimp only;omega,hj3,_,rfl⟩,by dsimp only;omega⟩
      ·rw[if_neg hk1]
       have hq1:q1=i:=by omega
       subst hq1
       have m2:=m
       have hi2:0<q1:=hi
       have fb:=fb2
       refine wpS_bind (Zn hy ?_)
       have m2':=M.hb1 m2 (by omega) hyl fb
       by_cases e2:j-1=1
       ·rw[if_pos (by simpa using e2)]
        exact wpS_pure (.inl ⟨_,rfl,MLo.hfB C M m2' e2 ⟨_,rfl⟩⟩)
       rw[if_neg (by simpa using e2)]
       obtain⟨z,hz,hzl,hzm⟩:=Jw (show q1-1<a.size by omega)
       refine wpS_bind (Zn hz (wpS_bind (ZK C hk ((Zbi C M.ub M.sb (M.ua _ hzm) (Zub b.size)).le (show j-1<=b.size-0 by omega)) (by omega) fun q2 r1 r2 r3=>?_)))
       dsimp only
       have fz2:∀y∈b.toList.take q2,R z y=false:=fun y hy=>by
        obtain⟨t,htk,ht⟩:=Ud hy
        have h1:=r2 t htk
        rw[Zuu,ZO ht] at h1
        exact C.asy _ _ (M.ub _ (ZtA ht)) (M.ua _ hzm) h1
       by_cases hk2:j-1-q2>0
       ·rw[if_pos hk2]
        have m3:=m2'.pushB M.sb (c:=q2) (by omega) (fun x hx y hy=>by
         obtain⟨t,htk,ht⟩:=V9 hy
         have h1:=r3 t htk.1 htk.2
         rw[Zuu,ZO ht] at h1
         exact C.takeLe M.ua M.sa hi2 hzl (M.ub _ (ZtA ht)) h1 x hx)
        rw[<- Uw] at m3
        by_cases e3:q2=1
        ·rw[if_pos (by simpa using e3)]
         exact wpS_pure (.inl ⟨_,rfl,MLo.hfB C M m3 e3 ⟨_,rfl⟩⟩)
        rw[if_neg (by simpa using e3)]
        by_cases e5:q2=0
        ·rw[if_pos (by simpa using e5)]
         exact wpS_pure (.inl ⟨_,rfl,M.hfA m3 (.inr e5) ⟨_,rfl⟩⟩)
        rw[if_neg (by simpa using e5)]
        have hj3:1<q2:=by omega
        have fz:=fz2
        refine wpS_bind (Zn hz ?_)
        have m4:=M.ha1 m3 hi2 hzl fz
        by_cases e4:q1-1=0
        ·rw[if_pos (by simpa using e4)]
         exact wpS_pure (.inl ⟨_,rfl,M.hfA m4 (.inl e4) ⟨_,rfl⟩⟩)
        ·rw[if_neg (by simpa using e4)]
         split
         ·exact wpS_pure (.inr ⟨rfl,⟨m4,by dsimp only;omega,hj3,_,rfl⟩,by dsimp only;omega⟩)
         ·exact wpS_pure ⟨rfl,⟨m4,by dsimp only;omega,hj3,_,rfl⟩,by dsimp only;omega⟩
       ·rw[if_neg hk2]
        have hq2:q2=j-1:=by omega
        subst hq2
        have m3:=m2'
        have hj3:1<j-1:=by omega
        have fz:=fz2
        refine wpS_bind (Zn hz ?_)
        have m4:=M.ha1 m3 hi2 hzl fz
        by_cases e4:q1-1=0
        ·rw[if_pos (by simpa using e4)]
         exact wpS_pure (.inl ⟨_,rfl,M.hfA m4 (.inl e4) ⟨_,rfl⟩⟩)
        ·rw[if_neg (by simpa using e4)]
         split
         ·exact wpS_pure (.inr ⟨rfl,⟨m4,by dsimp only;omega,hj3,_,rfl⟩,by dsimp only;omega⟩)
         ·exact wpS_pure ⟨rfl,⟨m4,by dsimp only;omega,hj3,_,rfl⟩,by dsimp only;omega⟩
     ·rw[if_neg hg1]
      refine wpS_bind (V7 ?_)
      refine wpS_bind (Zn hy (wpS_bind (ZK C (show kindOf (Vq _ _)=κ from hk) ((Zhf C M.ua M.sa (M.ub _ hym) (Zub a.size)).le (show i<=a.size-0 by omega)) (by omega) fun q1 p1 p2 p3=>?_)))
      dsimp only
      have fb2:∀z∈a.toList.take q1,R y z=false:=fun z hz=>by
       obtain⟨t,htk,ht⟩:=Ud hz
       have h1:=p2 t htk
       rw[Zuu,ZO ht] at h1
       simpa using h1
      by_cases hk1:i-q1>0
      ·rw[if_pos hk1]
       have m2:=m.pushA M.sa (c:=q1) (by omega) (fun x hx z hz=>by
        obtain⟨t,htk,ht⟩:=V9 hz
        have h1:=p3 t htk.1 htk.2
        rw[Zuu,ZO ht] at h1
        have uz:=M.ua z (ZtA ht)
        exact C.takeLe M.ub M.sb (by omega) hyl uz (C.asy _ _ (M.ub _ hym) uz (by simpa using h1)) x hx)
       rw[<- Uw] at m2
       by_cases e0:q1=0
       ·rw[if_pos (by simpa using e0)]
        exact wpS_pure (.inl ⟨_,rfl,M.hfA m2 (.inl e0) ⟨_,rfl⟩⟩)
       rw[if_neg (by simpa using e0)]
       have hi2:0<q1:=by omega
       have fb:=fb2
       refine wpS_bind (Zn hy ?_)
       have m2':=M.hb1 m2 (by omega) hyl fb
       by_cases e2:j-1=1
       ·rw[if_pos (by simpa using e2)]
        exact wpS_pure (.inl ⟨_,rfl,MLo.hfB C M m2' e2 ⟨_,rfl⟩⟩)
       rw[if_neg (by simpa using e2)]
       obtain⟨z,hz,hzl,hzm⟩:=Jw (show q1-1<a.size by omega)
       refine wpS_bind (Zn hz (wpS_bind (ZK C hk ((Zbi C M.ub M.sb (M.ua _ hzm) (Zub b.size)).le (show j-1<=b.size-0 by omega)) (by omega) fun q2 r1 r2 r3=>?_)))
       dsimp only
       have fz2:∀y∈b.toList.take q2,R z y=false:=fun y hy=>by
        obtain⟨t,htk,ht⟩:=Ud hy
        have h1:=r2 t htk
        rw[Zuu,ZO ht] at h1
        exact C.asy _ _ (M.ub _ (ZtA ht)) (M.ua _ hzm) h1
       by_cases hk2:j-1-q2>0
       ·rw[if_pos hk2]
        have m3:=m2'.pushB M.sb (c:=q2) (by omega) (fun x hx y hy=>by
         obtain⟨t,htk,ht⟩:=V9 hy
         have h1:=r3 t htk.1 htk.2
         rw[Zuu,ZO ht] at h1
         exact C.takeLe M.ua M.sa hi2 hzl (M.ub _ (ZtA ht)) h1 x hx)
        rw[<- Uw] at m3
        by_cases e3:q2=1
        ·rw[if_pos (by simpa using e3)]
         exact wpS_pure (.inl ⟨_,rfl,MLo.hfB C M m3 e3 ⟨_,rfl⟩⟩)
        rw[if_neg (by simpa using e3)]
        by_cases e5:q2=0
        ·rw[if_pos (by simpa using e5)]
         exact wpS_pure (.inl ⟨_,rfl,M.hfA m3 (.inr e5) ⟨_,rfl⟩⟩)
        rw[if_neg (by simpa using e5)]
        have hj3:1<q2:=by omega
        have fz:=fz2
        refine wpS_bind (Zn hz ?_)
        have m4:=M.ha1 m3 hi2 hzl fz
        by_cases e4:q1-1=0
        ·rw[if_pos (by simpa using e4)]
         exact wpS_pure (.inl ⟨_,rfl,M.hfA m4 (.inl e4) ⟨_,rfl⟩⟩)
        ·rw[if_neg (by simpa using e4)]
         split
         ·exact wpS_pure (.inr ⟨rfl,⟨m4,by dsimp only;omega,hj3,_,rfl⟩,by dsimp only;omega⟩)
         ·exact wpS_pure ⟨rfl,⟨m4,by dsimp only;omega,hj3,_,rfl⟩,by dsimp only;omega⟩
       ·rw[if_neg hk2]
        have hq2:q2=j-1:=by omega
        subst hq2
        have m3:=m2'
        have hj3:1<j-1:=by omega
        have fz:=fz2
        refine wpS_bind (Zn hz ?_)
        have m4:=M.ha1 m3 hi2 hzl fz
        by_cases e4:q1-1=0
        ·rw[if_pos (by simpa using e4)]
         exact wpS_pure (.inl ⟨_,rfl,M.hfA m4 (.inl e4) ⟨_,rfl⟩⟩)
        ·rw[if_neg (by simpa using e4)]
         split
         ·exact wpS_pure (.inr ⟨rfl,⟨m4,by dsimp only;omega,hj3,_,rfl⟩,by dsimp only;omega⟩)
         ·exact wpS_pure ⟨rfl,⟨m4,by dsimp only;omega,hj3,_,rfl⟩,by dsimp only;omega⟩
      ·rw[if_neg hk1]
       have hq1:q1=i:=by omega
       subst hq1
       have m2:=m
       have hi2:0<q1:=hi
       have fb:=fb2
       refine wpS_bind (Zn hy ?_)
       have m2':=M.hb1 m2 (by omega) hyl fb
       by_cases e2:j-1=1
       ·rw[if_pos (by simpa using e2)]
        exact wpS_pure (.inl ⟨_,rfl,MLo.hfB C M m2' e2 ⟨_,rfl⟩⟩)
       rw[if_neg (by simpa using e2)]
       obtain⟨z,hz,hzl,hzm⟩:=Jw (show q1-1<a.size by omega)
       refine wpS_bind (Zn hz (wpS_bind (ZK C hk ((Zbi C M.ub M.sb (M.ua _ hzm) (Zub b.size)).le (show j-1<=b.size-0 by omega)) (by omega) fun q2 r1 r2 r3=>?_)))
       dsimp only
       have fz2:∀y∈b.toList.take q2,R z y=false:=fun y hy=>by
        obtain⟨t,htk,ht⟩:=Ud hy
        have h1:=r2 t htk
        rw[Zuu,ZO ht] at h1
        exact C.asy _ _ (M.ub _ (ZtA ht)) (M.ua _ hzm) h1
       by_cases hk2:j-1-q2>0
       ·rw[if_pos hk2]
        have m3:=m2'.pushB M.sb (c:=q2) (by omega) (fun x hx y hy=>by
         obtain⟨t,htk,ht⟩:=V9 hy
         have h1:=r3 t htk.1 htk.2
         rw[Zuu,ZO ht] at h1
         exact C.takeLe M.ua M.sa hi2 hzl (M.ub _ (ZtA ht)) h1 x hx)
        rw[<- Uw] at m3
        by_cases e3:q2=1
        ·rw[if_pos (by simpa using e3)]
         exact wpS_pure (.inl ⟨_,rfl,MLo.hfB C M m3 e3 ⟨_,rfl⟩⟩)
        rw[if_neg (by simpa using e3)]
        by_cases e5:q2=0
        ·rw[if_pos (by simpa using e5)]
         exact wpS_pure (.inl ⟨_,rfl,M.hfA m3 (.inr e5) ⟨_,rfl⟩⟩)
        rw[if_neg (by simpa using e5)]
        have hj3:1<q2:=by omega
        have fz:=fz2
        refine wpS_bind (Zn hz ?_)
        have m4:=M.ha1 m3 hi2 hzl fz
        by_cases e4:q1-1=0
        ·rw[if_pos (by simpa using e4)]
         exact wpS_pure (.inl ⟨_,rfl,M.hfA m4 (.inl e4) ⟨_,rfl⟩⟩)
        ·rw[if_neg (by simpa using e4)]
         split
         ·exact wpS_pure (.inr ⟨rfl,⟨m4,by dsimp only;omega,hj3,_,rfl⟩,by dsimp only;omega⟩)
         ·exact wpS_pure ⟨rfl,⟨m4,by dsimp only;omega,hj3,_,rfl⟩,by dsimp only;omega⟩
       ·rw[if_neg hk2]
        have hq2:q2=j-1:=by omega
        subst hq2
        have m3:=m2'
        have hj3:1<j-1:=by omega
        have fz:=fz2
        refine wpS_bind (Zn hz ?_)
        have m4:=M.ha1 m3 hi2 hzl fz
        by_cases e4:q1-1=0
        ·rw[if_pos (by simpa using e4)]
         exact wpS_pure (.inl ⟨_,rfl,M.hfA m4 (.inl e4) ⟨_,rfl⟩⟩)
        ·rw[if_neg (by simpa using e4)]
         split
         ·exact wpS_pure (.inr ⟨rfl,⟨m4,by dsimp only;omega,hj3,_,rfl⟩,by dsimp only;omega⟩)
         ·exact wpS_pure ⟨rfl,⟨m4,by dsimp only;omega,hj3,_,rfl⟩,by dsimp only;omega⟩
end
theorem Zcj (i:Nat):mergeAt' i=(do
  let s <- get
  let (some (c,n,p),some (d,m,_)):=((pendingOf s)[i]?,(pendingOf s)[i+1]?)|unsupported "internal:list.sort.pending"
  set (setPending s (((pendingOf s).setIfInBounds i (c,n+m,p)).eraseIdxIfInBounds (i+1)))
  let some k <- V2 false (<- elem' (arrOf s) d) (arrOf s) c n 0|return false
  let (c,n):=(c+k,n-k)
  if n==0 then return true
  let some m <- V2 true (<- elem' (arrOf s) (c+n-1)) (arrOf s) d m (m-1)|return false
  if m==0 then return true
  let x:=(arrOf s).extract c d
  let y:=(arrOf s).extract d (d+m)
  let r <- if n<=m then Za1 x y else Za2 x y
  modify fun s=>setArr s (r.toList.zipIdx.foldl (fun a (p,j)=>a.setIfInBounds (c+j) p) (arrOf s))
  return (failedOf (<- get)).isNone):=rfl
section
variable {prog:Program}{w:World}{A:Around}{E:Value->Shared->Prop}{s:Shared}{κ:SortKind}{U:Keyed->Prop}{R:Keyed->Keyed->Bool}
theorem ZcG:∀(r:List Keyed) (c:Nat) (X:Array Keyed) (n:Nat),c+n+r.length<=X.size->((r.zipIdx n).foldl (fun a (p:Keyed×Nat)=>a.setIfInBounds (c+p.2) p.1) X).toList=X.toList.take (c+n)++r++X.toList.drop (c+n+r.length)
 |[],c,X,n,h=>by simp
 |x::r,c,X,n,h=>by
  simp only[Zua] at h
  rw[List.zipIdx_cons,ZvF]
  have ih:=ZcG r c (X.setIfInBounds (c+n) x) (n+1) (by rw[Array.size_setIfInBounds];omega)
  rw[ih,Zvz]
  have hl:c+n<X.toList.length:=by rw[ZtH];omega
  rw[show c+(n+1)=c+n+1 by omega]
  have e1:(X.toList.set (c+n) x).take (c+n+1)=X.toList.take (c+n)++[x]:=by
   rw[List.take_set,List.take_succ_eq_append_getElem hl,List.set_append_right _ _ (by rw[ZtR];omega)]
   rw[show c+n-(X.toList.take (c+n)).length=0 by rw[ZtR,ZtH];omega]
   rfl
  have e2:(X.toList.set (c+n) x).drop (c+n+1+r.length)=X.toList.drop (c+n+1+r.length):=List.drop_set_of_lt (by omega)
  rw[e1,e2]
  simp only[Zua,ZtK,Zvk,ZuJ,ZuC]
  rw[show c+n+(r.length+1)=c+n+1+r.length by omega]
theorem Zfa (C:Ut prog w A s κ U R) (left:Bool) {X:Array Keyed}{key:Keyed}{c n:Nat}{P:List Keyed} (hP:∀t,t<n->X[c+t]?=P[t]?) (hn:P.length=n) (ul:∀y∈P,U y) (hs:Srt R P) (uk:U key) :
  UB U R left key X c n (fun t=>if left=true then R (P.getD t (.none,.none)) key else !R key (P.getD t (.none,.none))):=by
 have get:∀t,t<n->P[t]?=some (P.getD t (.none,.none)):=fun t ht=>by
  rw[Zt8,Zt9 (by omega)];rfl
 refine⟨uk,fun t ht=>⟨_,by rw[hP t ht,get t ht],ul _ (ZtA (get t ht)),rfl⟩,fun t u htu hu h=>?_⟩
 have hu':=get u hu
 have ht':=get t (by omega)
 have h2:=Srt.le C ul hs htu ht' hu'
 have u1:=ul _ (ZtA ht')
 have u2:=ul _ (ZtA hu')
 cases left with
 |false =>
  have h:(!R key (P.getD u (.none,.none)))=true:=h
  show (!R key (P.getD t (.none,.none)))=true
  rw[C.tr _ _ key u1 u2 uk h2 (by simpa using h)];rfl
 |true =>
  have h:R (P.getD u (.none,.none)) key=true:=h
  show R (P.getD t (.none,.none)) key=true
  cases hc:R (P.getD t (.none,.none)) key with
  |true=>rfl
  |false=>rw[C.tr key _ _ uk u1 u2 hc h2] at h;cases h
theorem ZiB {σ:Type}{M:Model}{v:σ}{Q:PUnit->σ->Prop}{st:σ} (h:Q ⟨⟩ v):wpS M A E s (set v:StateT σ Sem PUnit) Q st:=by
 unfold wpS;rw[StateT.run_set];exact wpAny_pure ⟨rfl,h⟩
theorem ZbR (C:Ut prog w A s κ U R) {st:SortSt}{i c n p d m p2:Nat}{pre P Y post:List Keyed}{Q:Bool->SortSt->Prop} (hk:kindOf st=κ) (hf:failedOf st=none)
  (h1:(pendingOf st)[i]?=some (c,n,p)) (h2:(pendingOf st)[i+1]?=some (d,m,p2)) (hX:(arrOf st).toList=pre++(P++(Y++post))) (lp:pre.length=c) (lP:P.length=n) (lY:Y.length=m) (hd:d=c+n) (n0:0<n) (m0:0<m)
  (uP:∀x∈P,U x) (uY:∀x∈Y,U x) (sP:Srt R P) (sY:Srt R Y)
  (h:∀st' W,kindOf st'=κ->failedOf st'=none->pendingOf st'=((pendingOf st).setIfInBounds i (c,n+m,p)).eraseIdxIfInBounds (i+1)->(arrOf st').toList=pre++(W++post)->Srt R W->W.Perm (P++Y)->Q true st') :
  wpS (model prog w) A E s (mergeAt' i) Q st:=by
 rw[Zcj]
 refine wpS_bind (wpS_get ?_)
 rw[h1,h2]
 dsimp only
 have size0:(arrOf st).size=c+(n+(m+post.length)):=by
  have:=congrArg List.length hX
  rw[ZtH] at this
  rw[this];simp[lp,lP,lY]
 have gP:∀t,t<n->(arrOf st)[c+t]?=P[t]?:=fun t ht=>by
  rw[<- Zuh,hX,ZtJ (by omega),lp,show c+t-c=t by omega,ZtI (by omega)]
 have gY:∀t,t<m->(arrOf st)[d+t]?=Y[t]?:=fun t ht=>by
  rw[<- Zuh,hX,ZtJ (by omega),lp,ZtJ (by omega),lP,show d+t-c-n=t by omega,ZtI (by omega)]
 refine wpS_bind (ZiB ?_)
 have y0l:Y[0]?=some (Y.getD 0 (.none,.none)):=by rw[Zt8,Zt9 (by omega)];rfl
 generalize Y.getD 0 (.none,.none)=y0 at y0l
 have uy0:=uY y0 (ZtA y0l)
 refine wpS_bind (Zn (x:=y0) (by have:=gY 0 m0;rw[Nat.add_zero] at this;rw[this,y0l]) (wpS_bind (ZK C (show kindOf (setPending st _)=κ from hk) (Zfa C false gP lP uP sP uy0) n0 fun k p1 p2 p3=>?_)))
 dsimp only at p2 p3 ⊢
 have gd:∀{l:List Keyed}{t:Nat}{x:Keyed},l[t]?=some x->l.getD t (.none,.none)=x:=fun {l t x} h=>by rw[Zt8,h];rfl
 have pk:∀x∈P.take k,R y0 x=false:=fun x hx=>by
  obtain⟨t,ht,hx⟩:=Ud hx
  have:=p2 t ht
  rw[gd hx] at this
  simpa using this
 have pk2:∀t x,k<=t->P[t]?=some x->R y0 x=true:=fun t x ht hx=>by
  have hl:=(ZtC.mp hx).1
  have:=p3 t ht (by omega)
  rw[gd hx] at this
  simpa using this
 by_cases e1:n-k=0
 ·rw[if_pos (by simpa using e1)]
  refine wpS_pure (h _ (P++Y) hk hf rfl (by rw[hX,ZtK]) (ZtO.mpr ⟨sP,sY,fun x hx y hy=>?_⟩) (List.Perm.refl _))
  have:=C.dropLe uY sY y0l (uP x hx) (pk x (by rw[Zue (by omega)];exact hx))
  rw[ZuQ] at this
  exact this y hy
 rw[if_neg (by simpa using e1)]
 have ll:P[n-1]?=some (P.getD (n-1) (.none,.none)):=by rw[Zt8,Zt9 (by omega)];rfl
 generalize P.getD (n-1) (.none,.none)=l at ll
 have ul:=uP l (ZtA ll)
 refine wpS_bind (Zn (x:=l) (by have:=gP (n-1) (by omega);rw[show c+k+(n-k)-1=c+(n-1) by omega,this,ll]) (wpS_bind (ZK C (show kindOf (setPending st _)=κ from hk) (Zfa C true gY lY uY sY ul) (by omega) fun k2 r1 r2 r3=>?_)))
 dsimp only at r2 r3 ⊢
 have yk:∀x∈Y.take k2,R x l=true:=fun x hx=>by
  obtain⟨t,ht,hx⟩:=Ud hx
  have:=r2 t ht
  rw[gd hx] at this
  simpa using this
 have yk2:∀x∈Y.drop k2,R x l=false:=fun x hx=>by
  obtain⟨t,hx⟩:=J1 hx
  have hl:=(ZtC.mp hx).1
  have:=r3 (k2+t) (by omega) (by omega)
  rw[gd hx] at this
  simpa using this
 have pl:∀v,U v->R v l=false->∀x∈P,R v x=false:=fun v uv hv x hx=>C.takeLe uP sP n0 ll uv hv x (by rw[Zue (by omega)];exact hx)
 by_cases e2:k2=0
 ·rw[if_pos (by simpa using e2)]
  subst e2
  rw[ZuQ] at yk2
  exact wpS_pure (h _ (P++Y) hk hf rfl (by rw[hX,ZtK]) (ZtO.mpr ⟨sP,sY,fun x hx y hy=>pl y (uY y hy) (yk2 y hy) x hx⟩) (List.Perm.refl _))
 rw[if_neg (by simpa using e2)]
 have ex:((arrOf st).extract (c+k) d).toList=P.drop k:=by
  refine Zvh fun t=>?_
  rw[ZuE,Zul,Zuq,Zut,Zut,Zuh]
  by_cases ht:t<d-(c+k)
  ·rw[if_pos ht,show c+k+t=c+(k+t) by omega,gP (k+t) (by omega)]
  ·rw[if_neg ht,Zuk (by omega)]
 have ey:((arrOf st).extract d (d+k2)).toList=Y.take k2:=by
  refine Zvh fun t=>?_
  rw[ZuE,Zul,Zuq,Zut,Zuq,Zuh]
  by_cases ht:t<k2
  ·rw[if_pos (by omega),if_pos ht,gY t (by omega)]
  ·rw[if_neg (by omega),if_neg ht]
 have sx:((arrOf st).extract (c+k) d).size=n-k:=by
  have:=congrArg List.length ex
  rw[ZtH,Zu5] at this
  omega
 have sy:((arrOf st).extract d (d+k2)).size=k2:=by
  have:=congrArg List.length ey
  rw[ZtH,ZtR] at this
  omega
 have MM:MLo U R ((arrOf st).extract (c+k) d) ((arrOf st).extract d (d+k2)):=by
  refine⟨?_, ?_, ?_, ?_,by omega,by omega,fun x y hx hy=>?_,fun x hx y hy=>?_⟩
  ·rw[ex];exact fun x hx=>uP x (Zuf hx)
  ·rw[ey];exact fun x hx=>uY x (Zuc hx)
  ·rw[ex];exact sP.drop k
  ·rw[ey];exact sY.take k2
  ·rw[ey,Zuq,if_pos (by omega),y0l] at hx
   cases hx
   rw[ex,Zut,Nat.add_zero] at hy
   exact C.asy _ _ uy0 (uP y (ZtA hy)) (pk2 k y (ZtE _) hy)
  ·rw[ey] at hx
   rw[ex,Zut,sx,show k+(n-k-1)=n-1 by omega,ll] at hy
   cases hy
   exact C.asy _ _ (uY x (Zuc hx)) ul (yk x hx)
 have fin:∀r st2,U7 R ((arrOf st).extract (c+k) d) ((arrOf st).extract d (d+k2)) (setPending st (((pendingOf st).setIfInBounds i (c,n+m,p)).eraseIdxIfInBounds (i+1))) r st2 ->
   wpS (model prog w) A E s (do
    modify fun s=>setArr s (r.toList.zipIdx.foldl (fun a (p,j)=>a.setIfInBounds (c+k+j) p) (arrOf s))
    return (failedOf (<- get)).isNone) Q st2:=by
  rintro r st2 ⟨q1,q2,g,rfl⟩
  rw[ex,ey] at q2
  have lr:r.toList.length=n-k+k2:=by
   rw[q2.length_eq,Zus,Zu5,ZtR];omega
  refine wpS_bind (wpS_modify (wpS_bind (wpS_get (wpS_pure ?_))))
  show Q ((failedOf st).isNone) _
  rw[hf]
  have hw:=ZcG r.toList (c+k) (arrOf st) 0 (by omega)
  have memr:∀x∈r.toList,(x∈P.drop k\/x∈Y.take k2):=fun x hx=>ZtD.mp (q2.mem_iff.mp hx)
  refine h _ (P.take k++(r.toList++Y.drop k2)) hk hf rfl ?_ ?_ ?_
  ·show (r.toList.zipIdx.foldl (fun a (p:Keyed×Nat)=>a.setIfInBounds (c+k+p.2) p.1) (arrOf st)).toList=_
   rw[hw,Nat.add_zero,hX,lr]
   have d1:(pre++(P++(Y++post))).take (c+k)=pre++P.take k:=by
    rw[List.take_append,Zue (by omega),lp,show c+k-c=k by omega,ZuK (by omega)]
   have d2:(pre++(P++(Y++post))).drop (c+k+(n-k+k2))=Y.drop k2++post:=by
    rw[List.drop_append,Zu7 (by omega),ZuC,lp,List.drop_append,Zu7 (by omega),ZuC,lP,List.drop_append_of_le_length (by omega)]
    congr 2
    omega
   rw[d1,d2]
   simp only[ZtK]
  ·refine ZtO.mpr ⟨sP.take k,ZtO.mpr ⟨q1,sY.drop k2,fun x hx y hy=>?_⟩,fun x hx y hy=>?_⟩
   ·rcases memr x hx with z|z
    ·exact pl y (uY y (Zuf hy)) (yk2 y hy) x (Zuf z)
    ·have sd:=sY
     rw[<- ZtW k2 Y] at sd
     exact(ZtO.mp sd).2.2 x z y hy
   ·have ux:=uP x (Zuc hx)
    have hyY:∀y∈Y,R y x=false:=fun y hy=>by
     have:=C.dropLe uY sY y0l ux (pk x hx)
     rw[ZuQ] at this
     exact this y hy
    rcases ZtD.mp hy with z|z
    ·rcases memr y z with z|z
     ·have sd:=sP
      rw[<- ZtW k P] at sd
      exact(ZtO.mp sd).2.2 x hx y z
     ·exact hyY y (Zuc z)
    ·exact hyY y (Zuf z)
  ·have p1:(P.take k++(r.toList++Y.drop k2)).Perm (P.take k++((P.drop k++Y.take k2)++Y.drop k2)):=List.Perm.append_left _ (q2.append_right _)
   refine p1.trans ?_
   rw[ZtK,ZtW,<- ZtK,ZtW]
 by_cases e3:n-k<=k2
 ·rw[if_pos e3]
  exact wpS_bind (ZbP C (show kindOf (setPending st _)=κ from hk) MM fin)
 ·rw[if_neg e3]
  exact wpS_bind (ZbQ C (show kindOf (setPending st _)=κ from hk) MM fin)
end
noncomputable def gA (X:Array Keyed) (i:Nat):Keyed:=X.getD i (.none,.none)
theorem QZ {X:Array Keyed}{i:Nat} (h:i<X.size):X[i]?=some (gA X i):=by simp[gA,Array.getD,h]
theorem Zj5 {X:Array Keyed}{i:Nat}{x:Keyed} (h:X[i]?=some x):gA X i=x:=by
 have hi:i<X.size:=by
  rcases Nat.lt_or_ge i X.size with z|z
  ·exact z
  ·rw[Zvf z] at h;cases h
 rw[QZ hi] at h;exact Option.some.inj h
theorem Vj {X Y:Array Keyed}{i j:Nat} (h:X[i]?=Y[j]?):gA X i=gA Y j:=by
 simp only[gA,Array.getD_eq_getD_getElem?,h]
def Up (R:Keyed->Keyed->Bool) (X:Array Keyed) (lo m:Nat):Prop:=∀i j,i<j->j<m->R (gA X (lo+j)) (gA X (lo+i))=false
def Dn' (R:Keyed->Keyed->Bool) (X:Array Keyed) (lo m:Nat):Prop:=∀i j,i<j->j<m->R (gA X (lo+i)) (gA X (lo+j))=false
structure JY (X Y:Array Keyed) (lo m:Nat):Prop where
 perm:Y.Perm X
 out:∀k,k<lo\/lo+m<=k->Y[k]?=X[k]?
theorem JY.refl (X:Array Keyed) (lo m:Nat):JY X X lo m:=⟨Array.Perm.refl _,fun _ _=>rfl⟩
theorem JY.size {X Y:Array Keyed}{lo m:Nat} (h:JY X Y lo m):Y.size=X.size:=h.perm.size_eq
theorem JY.trans {X Y Z:Array Keyed}{lo m:Nat} (h:JY X Y lo m) (g:JY Y Z lo m):JY X Z lo m:=⟨g.perm.trans h.perm,fun k hk=>(g.out k hk).trans (h.out k hk)⟩
theorem JY.wide {X Y:Array Keyed}{lo lo' m m':Nat} (h:JY X Y lo' m') (h1:lo<=lo') (h2:lo'+m'<=lo+m):JY X Y lo m:=⟨h.perm,fun k hk=>h.out k (by omega)⟩
section
variable {prog:Program}{w:World}{A:Around}{E:Value->Shared->Prop}{s:Shared}{κ:SortKind}{U:Keyed->Prop}{R:Keyed->Keyed->Bool}
def ZcF (U:Keyed->Prop) (X:Array Keyed):Prop:=∀i,i<X.size->U (gA X i)
theorem ZcF.stir {X Y:Array Keyed}{lo m:Nat} (h:ZcF U X) (t:JY X Y lo m):ZcF U Y:=fun i hi=>by
 have hm:gA Y i∈Y:=by
  have:=QZ hi
  exact Array.mem_of_getElem? this
 obtain⟨j,hj⟩:=Array.getElem?_of_mem ((Array.Perm.mem_iff t.perm).mp hm)
 have hjs:j<X.size:=by
  rcases Nat.lt_or_ge j X.size with z|z
  ·exact z
  ·rw[Zvf z] at hj;cases hj
 rw[<- Zj5 hj]
 exact h j hjs
theorem JD (C:Ut prog w A s κ U R) {st:SortSt}{i j:Nat}{Q:Option Bool->SortSt->Prop} (hk:kindOf st=κ) (hU:ZcF U (arrOf st)) (hi:i<(arrOf st).size) (hj:j<(arrOf st).size) (h:Q (some (R (gA (arrOf st) i) (gA (arrOf st) j))) st) :
  wpS (model prog w) A E s (ltAt' i j) Q st:=by
 rw[ltAt'_eq]
 refine wpS_bind (wpS_get ?_)
 exact wpS_bind (Zn (QZ hi) (wpS_bind (Zn (QZ hj) (UX C hk (hU i hi) (hU j hj) h))))
theorem Up.more (C:Ut prog w A s κ U R) {X:Array Keyed}{lo n:Nat} (hU:ZcF U X) (hs:lo+n<X.size) (h:Up R X lo n) (hl:n=0\/R (gA X (lo+n)) (gA X (lo+n-1))=false):Up R X lo (n+1):=fun i j hij hj=>by
 by_cases e:j<n
 ·exact h i j hij e
 ·obtain rfl:j=n:=by omega
  rcases hl with hl|hl
  ·omega
  ·by_cases e2:i=j-1
   ·subst e2;rw[show lo+(j-1)=lo+j-1 by omega];exact hl
   ·have h2:=h i (j-1) (by omega) (by omega)
    rw[show lo+(j-1)=lo+j-1 by omega] at h2
    exact C.tr _ _ _ (hU _ (by omega)) (hU _ (by omega)) (hU _ (by omega)) h2 hl
theorem ZiC (C:Ut prog w A s κ U R) {st:SortSt}{lo n ok:Nat}{Q:Bool->SortSt->Prop} (hk:kindOf st=κ) (hU:ZcF U (arrOf st)) (hn:lo+n<=(arrOf st).size) (hok:ok<=n) (n1:1<=n) (hs:Up R (arrOf st) lo ok)
  (h:∀Y,JY (arrOf st) Y lo n->Up R Y lo n->Q true (setArr st Y)):wpS (model prog w) A E s (binarySort' lo n ok) Q st:=by
 rw[binarySort'_eq]
 refine wpS_bind (wpS_mono (wpS_forRange
  (I:=fun k (c:Option Bool×Unit) (st':SortSt)=>c.1=none/\∃Y,st'=setArr st Y/\JY (arrOf st) Y lo n/\Up R Y lo k)
  (Q:=fun(c:Option Bool×Unit) (st':SortSt)=>c.1=none/\∃Y,st'=setArr st Y/\JY (arrOf st) Y lo n/\Up R Y lo n) ?step ?fin ?ini) ?post)
 case ini =>
  refine⟨rfl,arrOf st,rfl,JY.refl _ _ _,fun i j hij hj=>?_⟩
  by_cases e:1<=ok
  ·exact hs i j hij (by omega)
  ·omega
 case fin =>
  rintro⟨o,u⟩ st' ⟨h1,Y,h2,h3,h4⟩
  exact⟨h1,Y,h2,h3,fun i j hij hj=>h4 i j hij (by omega)⟩
 case post =>
  rintro⟨o,u⟩ st' ⟨h1,Y,rfl,h3,h4⟩
  dsimp only at h1
  subst h1
  exact wpS_pure (h Y h3 h4)
 case step =>
  rintro k ⟨o,u⟩ st' hk1 hk2 ⟨h1,Y,rfl,h3,h4⟩
  dsimp only at h1
  subst h1
  have hYU:=hU.stir h3
  have hYs:=h3.size
  refine wpS_bind (wpS_mono (wpS_forRange
   (I:=fun x (c:Option Bool×Nat×Nat) (st':SortSt)=>c.1=none/\st'=setArr st Y/\c.2.1<=c.2.2/\c.2.2<=k/\(∀i,i<c.2.1->R (gA Y (lo+k)) (gA Y (lo+i))=false)/\(∀i,c.2.2<=i->i<k->R (gA Y (lo+k)) (gA Y (lo+i))=true)/\c.2.2-c.2.1<=k-x)
   (Q:=fun(c:Option Bool×Nat×Nat) (st':SortSt)=>c.1=none/\st'=setArr st Y/\c.2.1=c.2.2/\c.2.2<=k/\(∀i,i<c.2.1->R (gA Y (lo+k)) (gA Y (lo+i))=false)/\(∀i,c.2.2<=i->i<k->R (gA Y (lo+k)) (gA Y (lo+i))=true)) ?step1 ?fin1
   ⟨rfl,rfl,Zub _,ZtE _,fun i hi=>absurd hi (Nat.not_lt_zero _),fun i h1 h2=>absurd h1 (by dsimp only;omega),by dsimp only;omega⟩) ?post1)
  case fin1 =>
   rintro⟨o,l,r⟩ st' ⟨rfl,q0,q1,q2,q3,q4,q5⟩
   dsimp only at q1 q2 q3 q4 q5 ⊢
   exact⟨rfl,q0,by omega,q2,q3,q4⟩
  case step1 =>
   rintro x ⟨o,l,r⟩ st' _ hx ⟨rfl,rfl,q1,q2,q3,q4,q5⟩
   dsimp only at q1 q2 q3 q4 q5 ⊢
   by_cases hlr:l ≥ r
   ·rw[if_pos hlr]
    exact wpS_pure ⟨rfl,rfl,by dsimp only;omega,q2,q3,q4⟩
   ·rw[if_neg hlr]
    refine wpS_bind (JD C (show kindOf (setArr st Y)=κ from hk) hYU (show lo+k<Y.size by omega) (show lo+(l+r)/2<Y.size by omega) ?_)
    dsimp only
    show wpS _ _ _ _ (if R (gA Y (lo+k)) (gA Y (lo+(l+r)/2))=true then _ else _) _ _
    cases hm:R (gA Y (lo+k)) (gA Y (lo+(l+r)/2)) with
    |true =>
     rw[if_pos rfl]
     refine wpS_pure ⟨rfl,rfl,by dsimp only;omega,by dsimp only;omega,q3,fun i i1 i2=>?_,by dsimp only;omega⟩
     dsimp only at i1
     by_cases e:i=(l+r)/2
     ·subst e;exact hm
     ·cases hc:R (gA Y (lo+k)) (gA Y (lo+i)) with
      |true=>rfl
      |false =>
       have:=h4 ((l+r)/2) i (by omega) i2
       rw[C.tr _ _ _ (hYU _ (by omega)) (hYU _ (by omega)) (hYU _ (by omega)) this hc] at hm
       cases hm
    |false =>
     rw[if_neg (by decide)]
     refine wpS_pure ⟨rfl,rfl,by dsimp only;omega,q2,fun i i1=>?_,q4,by dsimp only;omega⟩
     dsimp only at i1
     by_cases e:i=(l+r)/2
     ·subst e;exact hm
     ·have:=h4 i ((l+r)/2) (by omega) (by omega)
      exact C.tr _ _ _ (hYU _ (by omega)) (hYU _ (by omega)) (hYU _ (by omega)) this hm
  case post1 =>
   rintro⟨o,l,r⟩ st' ⟨rfl,rfl,q1,q2,q3,q4⟩
   dsimp only at q1 q2 q3 q4 ⊢
   subst q1
   rw[moveDown'_eq]
   refine wpS_bind (wpS_modify (wpS_pure ⟨rfl,bubble Y (lo+k) (lo+k-(lo+l)),rfl, ?_, ?_⟩))
   ·refine h3.trans ⟨bubble_perm _ _ _,fun t ht=>?_⟩
    rw[getElem?_bubble (show lo+k<Y.size by omega) _ (by omega),if_neg (by omega),if_neg (by omega)]
   ·have bg:∀t,t<=k->gA (bubble Y (lo+k) (lo+k-(lo+l))) (lo+t)=if t=l then gA Y (lo+k) else if l<t then gA Y (lo+t-1) else gA Y (lo+t):=fun t ht=>by
     have e:=getElem?_bubble (show lo+k<Y.size by omega) (lo+k-(lo+l)) (by omega) (lo+t)
     by_cases e1:t=l
     ·rw[if_pos e1];rw[if_pos (by omega)] at e;exact Vj e
     ·rw[if_neg e1];rw[if_neg (by omega)] at e
      by_cases e2:l<t
      ·rw[if_pos e2];rw[if_pos (by omega)] at e;exact Vj e
      ·rw[if_neg e2];rw[if_neg (by omega)] at e;exact Vj e
    intro i j hij hj
    rw[bg i (by omega),bg j (by omega)]
    by_cases a1:j=l
    ·rw[if_pos a1,if_neg (by omega),if_neg (by omega)]
     exact q3 i (by omega)
    ·rw[if_neg a1]
     by_cases a2:l<j
     ·rw[if_pos a2]
      by_cases b1:i=l
      ·rw[if_pos b1,show lo+j-1=lo+(j-1) by omega]
       exact C.asy _ _ (hYU _ (by omega)) (hYU _ (by omega)) (q4 (j-1) (by omega) (by omega))
      ·rw[if_neg b1]
       by_cases b2:l<i
       ·rw[if_pos b2,show lo+j-1=lo+(j-1) by omega,show lo+i-1=lo+(i-1) by omega]
        exact h4 (i-1) (j-1) (by omega) (by omega)
       ·rw[if_neg b2,show lo+j-1=lo+(j-1) by omega]
        exact h4 i (j-1) (by omega) (by omega)
     ·rw[if_neg a2,if_neg (by omega),if_neg (by omega)]
      exact h4 i j hij (by omega)
noncomputable abbrev mir (X:Array Keyed) (i j:Nat):Array Keyed:=mirror X i j ((j-i)/2)
theorem Vg {st:SortSt}{i j:Nat}{Q:Unit->SortSt->Prop} (h:Q () (setArr st (mir (arrOf st) i j))):wpS (model prog w) A E s (reverseSlice' i j) Q st:=by
 rw[reverseSlice'_eq];exact wpS_modify h
theorem Jc {X:Array Keyed}{i j:Nat} (hij:i<=j) (hj:j<=X.size):JY X (mir X i j) i (j-i):=
 ⟨mirror_perm _ _ _ _,fun k hk=>by rw[getElem?_mirror_all hj,if_neg (by omega)]⟩
theorem VI {X:Array Keyed}{i j k:Nat} (hj:j<=X.size) (h1:i<=k) (h2:k<j):gA (mir X i j) k=gA X (i+j-1-k):=by
 refine Vj ?_
 rw[getElem?_mirror_all hj,if_pos ⟨h1,h2⟩]
theorem Qw {X:Array Keyed}{i j k:Nat} (hj:j<=X.size) (h:k<i\/j<=k):gA (mir X i j) k=gA X k:=by
 refine Vj ?_
 rw[getElem?_mirror_all hj,if_neg (by omega)]
def Eqv (R:Keyed->Keyed->Bool) (X:Array Keyed) (lo a b:Nat):Prop:=∀i j,a<=i->i<b->a<=j->j<b->R (gA X (lo+i)) (gA X (lo+j))=false
theorem Dn'.more (C:Ut prog w A s κ U R) {X:Array Keyed}{lo n:Nat} (hU:ZcF U X) (hs:lo+n<X.size) (h:Dn' R X lo n) (hl:n=0\/R (gA X (lo+n-1)) (gA X (lo+n))=false):Dn' R X lo (n+1):=fun i j hij hj=>by
 by_cases e:j<n
 ·exact h i j hij e
 ·obtain rfl:j=n:=by omega
  rcases hl with hl|hl
  ·omega
  ·by_cases e2:i=j-1
   ·subst e2;rw[show lo+(j-1)=lo+j-1 by omega];exact hl
   ·have h2:=h i (j-1) (by omega) (by omega)
    rw[show lo+(j-1)=lo+j-1 by omega] at h2
    exact C.tr _ _ _ (hU _ (by omega)) (hU _ (by omega)) (hU _ (by omega)) hl h2
theorem Dn'.turn (C:Ut prog w A s κ U R) {X:Array Keyed}{lo n c:Nat} (hU:ZcF U X) (hs:lo+n<=X.size) (hc:c<=n) (h:Dn' R X lo n) (he:Eqv R X lo c n):Dn' R (mir X (lo+c) (lo+n)) lo n:=fun i j hij hj=>by
 by_cases a:i<c
 ·rw[Qw hs (.inl (by omega))]
  by_cases b:j<c
  ·rw[Qw hs (.inl (by omega))]
   exact h i j hij hj
  ·rw[VI hs (by omega) (by omega),show lo+c+(lo+n)-1-(lo+j)=lo+(c+n-1-j) by omega]
   exact h i _ (by omega) (by omega)
 ·rw[VI hs (by omega) (by omega),VI hs (by omega) (by omega),show lo+c+(lo+n)-1-(lo+j)=lo+(c+n-1-j) by omega,show lo+c+(lo+n)-1-(lo+i)=lo+(c+n-1-i) by omega]
  exact he _ _ (by omega) (by omega) (by omega) (by omega)
theorem Dn'.up {X:Array Keyed}{lo n:Nat} (hs:lo+n<=X.size) (h:Dn' R X lo n):Up R (mir X lo (lo+n)) lo n:=fun i j hij hj=>by
 rw[VI hs (by omega) (by omega),VI hs (by omega) (by omega),show lo+(lo+n)-1-(lo+j)=lo+(n-1-j) by omega,show lo+(lo+n)-1-(lo+i)=lo+(n-1-i) by omega]
 exact h _ _ (by omega) (by omega)
theorem Ze2 (C:Ut prog w A s κ U R) {st:SortSt}{lo N:Nat}{Q:Option Nat->SortSt->Prop} (hk:kindOf st=κ) (hU:ZcF U (arrOf st)) (hn:lo+N<=(arrOf st).size) (n1:1<=N)
  (h:∀m Y,1<=m->m<=N->JY (arrOf st) Y lo m->Up R Y lo m->Q (some m) (setArr st Y)):wpS (model prog w) A E s (countRun' lo N) Q st:=by
 rw[countRun'_eq]
 have stU:∀{Y lo m},JY (arrOf st) Y lo m->ZcF U Y:=fun t=>hU.stir t
 refine wpS_bind (wpS_mono (wpS_forRange
  (I:=fun x (c:Option (Option Nat)×Nat) (st':SortSt)=>c.1=none/\st'=st/\c.2=x/\Up R (arrOf st) lo x)
  (Q:=fun(c:Option (Option Nat)×Nat) (st':SortSt)=>c.1=none/\st'=st/\(1<=c.2/\c.2<=N)/\Up R (arrOf st) lo c.2/\(c.2=N\/R (gA (arrOf st) (lo+c.2)) (gA (arrOf st) (lo+c.2-1))=true)) ?step ?fin ⟨rfl,rfl,rfl,fun i j hij hj=>by omega⟩) ?post)
 case fin =>
  rintro⟨o,n⟩ st' ⟨h1,h2,h3,h4⟩
  dsimp only at h1 h3 ⊢
  subst h3
  exact⟨h1,h2,by omega,h4,.inl (by omega)⟩
 case step =>
  rintro x ⟨o,n⟩ st' hx1 hx2 ⟨rfl,rfl,h3,h4⟩
  dsimp only at h3 ⊢
  subst h3
  refine wpS_bind (JD C hk hU (show lo+n<_ by omega) (show lo+n-1<_ by omega) ?_)
  dsimp only
  cases hR:R (gA (arrOf st') (lo+n)) (gA (arrOf st') (lo+n-1)) with
  |true =>
   rw[if_pos rfl]
   exact wpS_pure ⟨rfl,rfl,by dsimp only;omega,h4,.inr hR⟩
  |false =>
   rw[if_neg (by decide)]
   exact wpS_pure ⟨rfl,rfl,rfl,h4.more C hU (by omega) (.inr hR)⟩
 case post =>
  rintro⟨o,n⟩ st' ⟨h1,h2,h3,h4,h5⟩
  have h2:=h2.symm
  subst h2
  dsimp only at h1 h3 h4 h5 ⊢
  subst h1
  dsimp only
  by_cases e1:n=N
  ·rw[if_pos (by simpa using e1)]
   exact wpS_pure (h n (arrOf st) h3.1 h3.2 (JY.refl _ _ _) h4)
  rw[if_neg (by simpa using e1)]
  have h5:=h5.resolve_left e1
  by_cases e2:n>1
  ·rw[if_pos e2]
   refine wpS_bind (JD C hk hU (show lo<_ by omega) (show lo+n-1<_ by omega) ?_)
   dsimp only
   cases hR:R (gA (arrOf st) lo) (gA (arrOf st) (lo+n-1)) with
   |true =>
    rw[if_pos rfl]
    exact wpS_pure (h n (arrOf st) h3.1 h3.2 (JY.refl _ _ _) h4)
   |false =>
    rw[if_neg (by decide)]
    refine wpS_bind (Vg ?_)
    have le1:∀q,q<n->R (gA (arrOf st) (lo+q)) (gA (arrOf st) lo)=false/\R (gA (arrOf st) (lo+n-1)) (gA (arrOf st) (lo+q))=false:=fun q hq=>by
     refine⟨?_, ?_⟩
     ·by_cases z:q=0
      ·subst z;exact C.irr (hU _ (by omega))
      ·exact h4 0 q (by omega) hq
     ·by_cases z:q=n-1
      ·subst z;rw[show lo+(n-1)=lo+n-1 by omega];exact C.irr (hU _ (by omega))
      ·have:=h4 q (n-1) (by omega) (by omega);rw[show lo+(n-1)=lo+n-1 by omega] at this;exact this
    have eq1:Eqv R (arrOf st) lo 0 n:=fun i j _ hi _ hj=>C.tr _ _ _ (hU _ (by omega)) (hU _ (by omega)) (hU _ (by omega)) (C.tr _ _ _ (hU _ (by omega)) (hU _ (by omega)) (hU _ (by omega)) (le1 j hj).2 hR) (le1 i hi).1
    have t0:JY (arrOf st) (mir (arrOf st) lo (lo+n)) lo n:=(Jc (by omega) (by omega)).wide (ZtE _) (by omega)
    have t1:JY (arrOf st) (mir (arrOf st) lo (lo+n)) lo (n+1):=t0.wide (ZtE _) (by omega)
    have dd:Dn' R (mir (arrOf st) lo (lo+n)) lo n:=fun i j hij hj=>by
     rw[VI (by omega) (by omega) (by omega),VI (by omega) (by omega) (by omega),show lo+(lo+n)-1-(lo+j)=lo+(n-1-j) by omega,show lo+(lo+n)-1-(lo+i)=lo+(n-1-i) by omega]
     exact eq1 _ _ (Zub _) (by omega) (Zub _) (by omega)
    have d1:Dn' R (mir (arrOf st) lo (lo+n)) lo (n+1):=dd.more C (stU t1) (by have:=t1.size;omega) (.inr (by
     rw[VI (by omega) (by omega) (by omega),Qw (by omega) (.inr (by omega)),show lo+(lo+n)-1-(lo+n-1)=lo+0 by omega]
     have z1:=eq1 0 (n-1) (Zub _) (by omega) (Zub _) (by omega)
     rw[show lo+(n-1)=lo+n-1 by omega] at z1
     exact C.tr _ _ _ (hU _ (by omega)) (hU _ (by omega)) (hU _ (by omega)) (C.asy _ _ (hU _ (by omega)) (hU _ (by omega)) h5) z1))
    show wpS _ _ _ _ _ _ (setArr st (mir (arrOf st) lo (lo+n)))
    generalize mir (arrOf st) lo (lo+n)=X1 at t1 d1
    clear dd t0
    refine wpS_bind (wpS_lift (wpAny_rule ⟨rfl, ?_⟩))
    refine wpS_bind (wpS_mono (wpS_forRange
     (I:=fun x (c:Option (Option Nat)×Nat×Nat) (st':SortSt)=>c.1=none/\c.2.1=x/\∃Y,st'=setArr st Y/\JY (arrOf st) Y lo x/\Dn' R Y lo x/\c.2.2<x/\Eqv R Y lo (x-1-c.2.2) x)
     (Q:=fun(c:Option (Option Nat)×Nat×Nat) (st':SortSt)=>c.1=none/\(1<=c.2.1/\c.2.1<=N)/\∃Y,st'=setArr st Y/\JY (arrOf st) Y lo c.2.1/\Dn' R Y lo c.2.1/\c.2.2<c.2.1/\Eqv R Y lo (c.2.1-1-c.2.2) c.2.1) ?_ ?_
     ⟨rfl,rfl,X1,rfl,t1,d1,Zvm _,fun i j i1 i2 j1 j2=>by
      obtain rfl:i=n:=by dsimp only at i1;omega
      obtain rfl:j=i:=by dsimp only at j1;omega
      exact C.irr (stU t1 _ (by have:=t1.size;omega))⟩) ?_)
    ·rintro x ⟨o,k,e⟩ st' hx1 hx2 ⟨rfl,h3,Y,rfl,tY,dY,he,eY⟩
     dsimp only at h3 he eY ⊢
     subst h3
     have szY:=tY.size
     have uY:=stU tY
     refine wpS_bind (JD C (show kindOf (setArr st Y)=κ from hk) uY (show lo+k<Y.size by omega) (show lo+k-1<Y.size by omega) ?_)
     dsimp only
     show wpS _ _ _ _ (if R (gA Y (lo+k)) (gA Y (lo+k-1))=true then _ else _) _ _
     have one:∀{Z:Array Keyed}{q:Nat},ZcF U Z->lo+q<Z.size->Eqv R Z lo (q+1-1-0) (q+1):=fun {Z q} hZ hq i j i1 i2 j1 j2=>by
      obtain rfl:i=q:=by omega
      obtain rfl:j=i:=by omega
      exact C.irr (hZ _ hq)
     cases hR:R (gA Y (lo+k)) (gA Y (lo+k-1)) with
     |true =>
      rw[if_pos rfl]
      have as1:=C.asy _ _ (uY _ (by omega)) (uY _ (by omega)) hR
      by_cases he0:e>0
      ·rw[if_pos he0]
       refine wpS_bind (Vg (wpS_pure ⟨rfl,rfl,mir Y (lo+k-(e+1)) (lo+k),rfl, ?_, ?_,Zvm _, ?_⟩))
       ·exact(tY.trans ((Jc (by omega) (by omega)).wide (by omega) (by omega))).wide (ZtE _) (by omega)
       ·have t4:JY (arrOf st) (mir Y (lo+k-(e+1)) (lo+k)) lo k:=tY.trans ((Jc (by omega) (by omega)).wide (by omega) (by omega))
        have dm:=dY.turn C uY (by omega) (show k-1-e<=k by omega) eY
        rw[show lo+(k-1-e)=lo+k-(e+1) by omega] at dm
        refine dm.more C (stU t4) (by have:=t4.size;omega) (.inr ?_)
        rw[VI (by omega) (by omega) (by omega),Qw (by omega) (.inr (by omega)),show lo+k-(e+1)+(lo+k)-1-(lo+k-1)=lo+(k-1-e) by omega]
        have q1:=eY (k-1-e) (k-1) (by omega) (by omega) (by omega) (by omega)
        rw[show lo+(k-1)=lo+k-1 by omega] at q1
        exact C.tr _ _ _ (uY _ (by omega)) (uY _ (by omega)) (uY _ (by omega)) as1 q1
       ·exact one (stU (tY.trans ((Jc (by omega) (by omega)).wide (by omega) (by omega)))) (by have:=(Jc (X:=Y) (i:=lo+k-(e+1)) (j:=lo+k) (by omega) (by omega)).size;omega)
      ·rw[if_neg he0]
       exact wpS_pure ⟨rfl,rfl,Y,rfl,tY.wide (ZtE _) (by omega),dY.more C uY (by omega) (.inr as1),Zvm _,one uY (by omega)⟩
     |false =>
      rw[if_neg (by decide)]
      refine wpS_bind (JD C (show kindOf (setArr st Y)=κ from hk) uY (show lo+k-1<Y.size by omega) (show lo+k<Y.size by omega) ?_)
      dsimp only
      show wpS _ _ _ _ (if R (gA Y (lo+k-1)) (gA Y (lo+k))=true then _ else _) _ _
      cases hL:R (gA Y (lo+k-1)) (gA Y (lo+k)) with
      |true =>
       rw[if_pos rfl]
       exact wpS_pure ⟨rfl,by dsimp only;omega,Y,rfl,tY,dY,he,eY⟩
      |false =>
       rw[if_neg (by decide)]
       refine wpS_pure ⟨rfl,rfl,Y,rfl,tY.wide (ZtE _) (by omega),dY.more C uY (by omega) (.inr hL),by dsimp only;omega,fun i j i1 i2 j1 j2=>?_⟩
       dsimp only at i1 i2 j1 j2
       have ek:∀q,k-1-e<=q->q<k->R (gA Y (lo+q)) (gA Y (lo+k-1))=false/\R (gA Y (lo+k-1)) (gA Y (lo+q))=false:=fun q q1 q2=>by
        have z1:=eY q (k-1) q1 q2 (by omega) (by omega)
        have z2:=eY (k-1) q (by omega) (by omega) q1 q2
        rw[show lo+(k-1)=lo+k-1 by omega] at z1 z2
        exact⟨z1,z2⟩
       by_cases a:i<k
       ·by_cases b:j<k
        ·exact eY i j (by omega) a (by omega) b
        ·obtain rfl:j=k:=by omega
         exact C.tr _ _ _ (uY _ (by omega)) (uY _ (by omega)) (uY _ (by omega)) hL (ek i (by omega) a).1
       ·obtain rfl:i=k:=by omega
        by_cases b:j<i
        ·exact C.tr _ _ _ (uY _ (by omega)) (uY _ (by omega)) (uY _ (by omega)) (ek j (by omega) b).2 hR
        ·obtain rfl:j=i:=by omega
         exact C.irr (uY _ (by omega))
    ·rintro⟨o,k,e⟩ st' ⟨h1,h3,Y,h4,tY,dY,he,eY⟩
     dsimp only at h3 he eY ⊢
     subst h3
     rw[show max (n+1) N=N by omega] at *
     exact⟨h1,by omega,Y,h4,tY,dY,he,eY⟩
    ·rintro⟨o,n2,e⟩ st' ⟨rfl,hn2,Y,rfl,tY,dY,he,eY⟩
     dsimp only at hn2 tY dY he eY ⊢
     have szY:=tY.size
     have uY:=stU tY
     by_cases he0:e>0
     ·rw[if_pos he0]
      refine wpS_bind (Vg ?_)
      have t2:JY (arrOf st) (mir Y (lo+n2-(e+1)) (lo+n2)) lo n2:=tY.trans ((Jc (by omega) (by omega)).wide (by omega) (by omega))
      have d2:=dY.turn C uY (by omega) (show n2-1-e<=n2 by omega) eY
      rw[show lo+(n2-1-e)=lo+n2-(e+1) by omega] at d2
      refine wpS_bind (Vg ?_)
      have sz2:(mir Y (lo+n2-(e+1)) (lo+n2)).size=(arrOf st).size:=t2.size
      have t3:JY (arrOf st) (mir (mir Y (lo+n2-(e+1)) (lo+n2)) lo (lo+n2)) lo n2:=t2.trans ((Jc (by omega) (by omega)).wide (ZtE _) (by omega))
      have u3:Up R (mir (mir Y (lo+n2-(e+1)) (lo+n2)) lo (lo+n2)) lo n2:=d2.up (by omega)
      have sz3:=t3.size
      show wpS _ _ _ _ _ _ (setArr st (mir (mir Y (lo+n2-(e+1)) (lo+n2)) lo (lo+n2)))
      generalize mir (mir Y (lo+n2-(e+1)) (lo+n2)) lo (lo+n2)=Y3 at t3 u3 sz3
      refine wpS_bind (wpS_mono (wpS_forRange
       (I:=fun x (c:Option (Option Nat)×Nat) (st':SortSt)=>c.1=none/\st'=setArr st Y3/\c.2=x/\Up R Y3 lo x)
       (Q:=fun(c:Option (Option Nat)×Nat) (st':SortSt)=>c.1=none/\st'=setArr st Y3/\(n2<=c.2/\c.2<=N)/\Up R Y3 lo c.2) ?_ ?_ ⟨rfl,rfl,rfl,u3⟩) ?_)
      ·rintro x ⟨o,k⟩ st' hx1 hx2 ⟨rfl,rfl,h3,h4⟩
       dsimp only at h3 ⊢
       subst h3
       refine wpS_bind (JD C (show kindOf (setArr st Y3)=κ from hk) (stU t3) (show lo+k<Y3.size by omega) (show lo+k-1<Y3.size by omega) ?_)
       dsimp only
       show wpS _ _ _ _ (if R (gA Y3 (lo+k)) (gA Y3 (lo+k-1))=true then _ else _) _ _
       cases hR:R (gA Y3 (lo+k)) (gA Y3 (lo+k-1)) with
       |true =>
        rw[if_pos rfl]
        exact wpS_pure ⟨rfl,rfl,by dsimp only;omega,h4⟩
       |false =>
        rw[if_neg (by decide)]
        exact wpS_pure ⟨rfl,rfl,rfl,h4.more C (stU t3) (by omega) (.inr hR)⟩
      ·rintro⟨o,k⟩ st' ⟨h1,h2,h3,h4⟩
       dsimp only at h3 ⊢
       subst h3
       exact⟨h1,h2,by omega,h4⟩
      ·rintro⟨o,k⟩ st' ⟨rfl,rfl,h3,h4⟩
       dsimp only at h3 h4 ⊢
       exact wpS_pure (h k Y3 (by omega) h3.2 (t3.wide (ZtE _) (by omega)) h4)
     ·rw[if_neg he0]
      have t2:=tY
      have d2:=dY
      refine wpS_bind (Vg ?_)
      have sz2:(Y).size=(arrOf st).size:=t2.size
      have t3:JY (arrOf st) (mir (Y) lo (lo+n2)) lo n2:=t2.trans ((Jc (by omega) (by omega)).wide (ZtE _) (by omega))
      have u3:Up R (mir (Y) lo (lo+n2)) lo n2:=d2.up (by omega)
      have sz3:=t3.size
      show wpS _ _ _ _ _ _ (setArr st (mir (Y) lo (lo+n2)))
      generalize mir (Y) lo (lo+n2)=Y3 at t3 u3 sz3
      refine wpS_bind (wpS_mono (wpS_forRange
       (I:=fun x (c:Option (Option Nat)×Nat) (st':SortSt)=>c.1=none/\st'=setArr st Y3/\c.2=x/\Up R Y3 lo x)
       (Q:=fun(c:Option (Option Nat)×Nat) (st':SortSt)=>c.1=none/\st'=setArr st Y3/\(n2<=c.2/\c.2<=N)/\Up R Y3 lo c.2) ?_ ?_ ⟨rfl,rfl,rfl,u3⟩) ?_)
      ·rintro x ⟨o,k⟩ st' hx1 hx2 ⟨rfl,rfl,h3,h4⟩
       dsimp only at h3 ⊢
       subst h3
       refine wpS_bind (JD C (show kindOf (setArr st Y3)=κ from hk) (stU t3) (show lo+k<Y3.size by omega) (show lo+k-1<Y3.size by omega) ?_)
       dsimp only
       show wpS _ _ _ _ (if R (gA Y3 (lo+k)) (gA Y3 (lo+k-1))=true then _ else _) _ _
       cases hR:R (gA Y3 (lo+k)) (gA Y3 (lo+k-1)) with
       |true =>
        rw[if_pos rfl]
        exact wpS_pure ⟨rfl,rfl,by dsimp only;omega,h4⟩
       |false =>
        rw[if_neg (by decide)]
        exact wpS_pure ⟨rfl,rfl,rfl,h4.more C (stU t3) (by omega) (.inr hR)⟩
      ·rintro⟨o,k⟩ st' ⟨h1,h2,h3,h4⟩
       dsimp only at h3 ⊢
       subst h3
       exact⟨h1,h2,by omega,h4⟩
      ·rintro⟨o,k⟩ st' ⟨rfl,rfl,h3,h4⟩
       dsimp only at h3 h4 ⊢
       exact wpS_pure (h k Y3 (by omega) h3.2 (t3.wide (ZtE _) (by omega)) h4)
  ·rw[if_neg e2]
   have t1:JY (arrOf st) (arrOf st) lo (n+1):=JY.refl _ _ _
   obtain rfl:n=1:=by omega
   have d1:Dn' R (arrOf st) lo (1+1):=fun i j hij hj=>by
    obtain rfl:i=0:=by omega
    obtain rfl:j=1:=by omega
    have:=C.asy _ _ (hU _ (by omega)) (hU _ (by omega)) h5
    rw[show lo+1-1=lo+0 by omega] at this
    exact this
   show wpS _ _ _ _ _ _ (setArr st (arrOf st))
   refine wpS_bind (wpS_lift (wpAny_rule ⟨rfl, ?_⟩))
   refine wpS_bind (wpS_mono (wpS_forRange
    (I:=fun x (c:Option (Option Nat)×Nat×Nat) (st':SortSt)=>c.1=none/\c.2.1=x/\∃Y,st'=setArr st Y/\JY (arrOf st) Y lo x/\Dn' R Y lo x/\c.2.2<x/\Eqv R Y lo (x-1-c.2.2) x)
    (Q:=fun(c:Option (Option Nat)×Nat×Nat) (st':SortSt)=>c.1=none/\(1<=c.2.1/\c.2.1<=N)/\∃Y,st'=setArr st Y/\JY (arrOf st) Y lo c.2.1/\Dn' R Y lo c.2.1/\c.2.2<c.2.1/\Eqv R Y lo (c.2.1-1-c.2.2) c.2.1) ?_ ?_
    ⟨rfl,rfl,(arrOf st),rfl,t1,d1,Zvm _,fun i j i1 i2 j1 j2=>by
     obtain rfl:i=1:=by dsimp only at i1;omega
     obtain rfl:j=1:=by dsimp only at j1;omega
     exact C.irr (stU t1 _ (by have:=t1.size;omega))⟩) ?_)
   ·rintro x ⟨o,k,e⟩ st' hx1 hx2 ⟨rfl,h3,Y,rfl,tY,dY,he,eY⟩
    dsimp only at h3 he eY ⊢
    subst h3
    have szY:=tY.size
    have uY:=stU tY
    refine wpS_bind (JD C (show kindOf (setArr st Y)=κ from hk) uY (show lo+k<Y.size by omega) (show lo+k-1<Y.size by omega) ?_)
    dsimp only
    show wpS _ _ _ _ (if R (gA Y (lo+k)) (gA Y (lo+k-1))=true then _ else _) _ _
    have one:∀{Z:Array Keyed}{q:Nat},ZcF U Z->lo+q<Z.size->Eqv R Z lo (q+1-1-0) (q+1):=fun {Z q} hZ hq i j i1 i2 j1 j2=>by
     obtain rfl:i=q:=by omega
     obtain rfl:j=i:=by omega
     exact C.irr (hZ _ hq)
    cases hR:R (gA Y (lo+k)) (gA Y (lo+k-1)) with
    |true =>
     rw[if_pos rfl]
     have as1:=C.asy _ _ (uY _ (by omega)) (uY _ (by omega)) hR
     by_cases he0:e>0
     ·rw[if_pos he0]
      refine wpS_bind (Vg (wpS_pure ⟨rfl,rfl,mir Y (lo+k-(e+1)) (lo+k),rfl, ?_, ?_,Zvm _, ?_⟩))
      ·exact(tY.trans ((Jc (by omega) (by omega)).wide (by omega) (by omega))).wide (ZtE _) (by omega)
      ·have t4:JY (arrOf st) (mir Y (lo+k-(e+1)) (lo+k)) lo k:=tY.trans ((Jc (by omega) (by omega)).wide (by omega) (by omega))
       have dm:=dY.turn C uY (by omega) (show k-1-e<=k by omega) eY
       rw[show lo+(k-1-e)=lo+k-(e+1) by omega] at dm
       refine dm.more C (stU t4) (by have:=t4.size;omega) (.inr ?_)
       rw[VI (by omega) (by omega) (by omega),Qw (by omega) (.inr (by omega)),show lo+k-(e+1)+(lo+k)-1-(lo+k-1)=lo+(k-1-e) by omega]
       have q1:=eY (k-1-e) (k-1) (by omega) (by omega) (by omega) (by omega)
       rw[show lo+(k-1)=lo+k-1 by omega] at q1
       exact C.tr _ _ _ (uY _ (by omega)) (uY _ (by omega)) (uY _ (by omega)) as1 q1
      ·exact one (stU (tY.trans ((Jc (by omega) (by omega)).wide (by omega) (by omega)))) (by have:=(Jc (X:=Y) (i:=lo+k-(e+1)) (j:=lo+k) (by omega) (by omega)).size;omega)
     ·rw[if_neg he0]
      exact wpS_pure ⟨rfl,rfl,Y,rfl,tY.wide (ZtE _) (by omega),dY.more C uY (by omega) (.inr as1),Zvm _,one uY (by omega)⟩
    |false =>
     rw[if_neg (by decide)]
     refine wpS_bind (JD C (show kindOf (setArr st Y)=κ from hk) uY (show lo+k-1<Y.size by omega) (show lo+k<Y.size by omega) ?_)
     dsimp only
     show wpS _ _ _ _ (if R (gA Y (lo+k-1)) (gA Y (lo+k))=true then _ else _) _ _
     cases hL:R (gA Y (lo+k-1)) (gA Y (lo+k)) with
     |true =>
      rw[if_pos rfl]
      exact wpS_pure ⟨rfl,by dsimp only;omega,Y,rfl,tY,dY,he,eY⟩
     |false =>
      rw[if_neg (by decide)]
      refine wpS_pure ⟨rfl,rfl,Y,rfl,tY.wide (ZtE _) (by omega),dY.more C uY (by omega) (.inr hL),by dsimp only;omega,fun i j i1 i2 j1 j2=>?_⟩
      dsimp only at i1 i2 j1 j2
      have ek:∀q,k-1-e<=q->q<k->R (gA Y (lo+q)) (gA Y (lo+k-1))=false/\R (gA Y (lo+k-1)) (gA Y (lo+q))=false:=fun q q1 q2=>by
       have z1:=eY q (k-1) q1 q2 (by omega) (by omega)
       have z2:=eY (k-1) q (by omega) (by omega) q1 q2
       rw[show lo+(k-1)=lo+k-1 by omega] at z1 z2
       exact⟨z1,z2⟩
      by_cases a:i<k
      ·by_cases b:j<k
       ·exact eY i j (by omega) a (by omega) b
       ·obtain rfl:j=k:=by omega
        exact C.tr _ _ _ (uY _ (by omega)) (uY _ (by omega)) (uY _ (by omega)) hL (ek i (by omega) a).1
      ·obtain rfl:i=k:=by omega
       by_cases b:j<i
       ·exact C.tr _ _ _ (uY _ (by omega)) (uY _ (by omega)) (uY _ (by omega)) (ek j (by omega) b).2 hR
       ·obtain rfl:j=i:=by omega
        exact C.irr (uY _ (by omega))
   ·rintro⟨o,k,e⟩ st' ⟨h1,h3,Y,h4,tY,dY,he,eY⟩
    dsimp only at h3 he eY ⊢
    subst h3
    rw[show max (1+1) N=N by omega] at *
    exact⟨h1,by omega,Y,h4,tY,dY,he,eY⟩
   ·rintro⟨o,n2,e⟩ st' ⟨rfl,hn2,Y,rfl,tY,dY,he,eY⟩
    dsimp only at hn2 tY dY he eY ⊢
    have szY:=tY.size
    have uY:=stU tY
    by_cases he0:e>0
    ·rw[if_pos he0]
     refine wpS_bind (Vg ?_)
     have t2:JY (arrOf st) (mir Y (lo+n2-(e+1)) (lo+n2)) lo n2:=tY.trans ((Jc (by omega) (by omega)).wide (by omega) (by omega))
     have d2:=dY.turn C uY (by omega) (show n2-1-e<=n2 by omega) eY
     rw[show lo+(n2-1-e)=lo+n2-(e+1) by omega] at d2
     refine wpS_bind (Vg ?_)
     have sz2:(mir Y (lo+n2-(e+1)) (lo+n2)).size=(arrOf st).size:=t2.size
     have t3:JY (arrOf st) (mir (mir Y (lo+n2-(e+1)) (lo+n2)) lo (lo+n2)) lo n2:=t2.trans ((Jc (by omega) (by omega)).wide (ZtE _) (by omega))
     have u3:Up R (mir (mir Y (lo+n2-(e+1)) (lo+n2)) lo (lo+n2)) lo n2:=d2.up (by omega)
     have sz3:=t3.size
     show wpS _ _ _ _ _ _ (setArr st (mir (mir Y (lo+n2-(e+1)) (lo+n2)) lo (lo+n2)))
     generalize mir (mir Y (lo+n2-(e+1)) (lo+n2)) lo (lo+n2)=Y3 at t3 u3 sz3
     refine wpS_bind (wpS_mono (wpS_forRange
      (I:=fun x (c:Option (Option Nat)×Nat) (st':SortSt)=>c.1=none/\st'=setArr st Y3/\c.2=x/\Up R Y3 lo x)
      (Q:=fun(c:Option (Option Nat)×Nat) (st':SortSt)=>c.1=none/\st'=setArr st Y3/\(n2<=c.2/\c.2<=N)/\Up R Y3 lo c.2) ?_ ?_ ⟨rfl,rfl,rfl,u3⟩) ?_)
     ·rintro x ⟨o,k⟩ st' hx1 hx2 ⟨rfl,rfl,h3,h4⟩
      dsimp only at h3 ⊢
      subst h3
      refine wpS_bind (JD C (show kindOf (setArr st Y3)=κ from hk) (stU t3) (show lo+k<Y3.size by omega) (show lo+k-1<Y3.size by omega) ?_)
      dsimp only
      show wpS _ _ _ _ (if R (gA Y3 (lo+k)) (gA Y3 (lo+k-1))=true then _ else _) _ _
      cases hR:R (gA Y3 (lo+k)) (gA Y3 (lo+k-1)) with
      |true =>
       rw[if_pos rfl]
       exact wpS_pure ⟨rfl,rfl,by dsimp only;omega,h4⟩
      |false =>
       rw[if_neg (by decide)]
       exact wpS_pure ⟨rfl,rfl,rfl,h4.more C (stU t3) (by omega) (.inr hR)⟩
     ·rintro⟨o,k⟩ st' ⟨h1,h2,h3,h4⟩
      dsimp only at h3 ⊢
      subst h3
      exact⟨h1,h2,by omega,h4⟩
     ·rintro⟨o,k⟩ st' ⟨rfl,rfl,h3,h4⟩
      dsimp only at h3 h4 ⊢
      exact wpS_pure (h k Y3 (by omega) h3.2 (t3.wide (ZtE _) (by omega)) h4)
    ·rw[if_neg he0]
     have t2:=tY
     have d2:=dY
     refine wpS_bind (Vg ?_)
     have sz2:(Y).size=(arrOf st).size:=t2.size
     have t3:JY (arrOf st) (mir (Y) lo (lo+n2)) lo n2:=t2.trans ((Jc (by omega) (by omega)).wide (ZtE _) (by omega))
     have u3:Up R (mir (Y) lo (lo+n2)) lo n2:=d2.up (by omega)
     have sz3:=t3.size
     show wpS _ _ _ _ _ _ (setArr st (mir (Y) lo (lo+n2)))
     generalize mir (Y) lo (lo+n2)=Y3 at t3 u3 sz3
     refine wpS_bind (wpS_mono (wpS_forRange
      (I:=fun x (c:Option (Option Nat)×Nat) (st':SortSt)=>c.1=none/\st'=setArr st Y3/\c.2=x/\Up R Y3 lo x)
      (Q:=fun(c:Option (Option Nat)×Nat) (st':SortSt)=>c.1=none/\st'=setArr st Y3/\(n2<=c.2/\c.2<=N)/\Up R Y3 lo c.2) ?_ ?_ ⟨rfl,rfl,rfl,u3⟩) ?_)
     ·rintro x ⟨o,k⟩ st' hx1 hx2 ⟨rfl,rfl,h3,h4⟩
      dsimp only at h3 ⊢
      subst h3
      refine wpS_bind (JD C (show kindOf (setArr st Y3)=κ from hk) (stU t3) (show lo+k<Y3.size by omega) (show lo+k-1<Y3.size by omega) ?_)
      dsimp only
      show wpS _ _ _ _ (if R (gA Y3 (lo+k)) (gA Y3 (lo+k-1))=true then _ else _) _ _
      cases hR:R (gA Y3 (lo+k)) (gA Y3 (lo+k-1)) with
      |true =>
       rw[if_pos rfl]
       exact wpS_pure ⟨rfl,rfl,by dsimp only;omega,h4⟩
      |false =>
       rw[if_neg (by decide)]
       exact wpS_pure ⟨rfl,rfl,rfl,h4.more C (stU t3) (by omega) (.inr hR)⟩
     ·rintro⟨o,k⟩ st' ⟨h1,h2,h3,h4⟩
      dsimp only at h3 ⊢
      subst h3
      exact⟨h1,h2,by omega,h4⟩
     ·rintro⟨o,k⟩ st' ⟨rfl,rfl,h3,h4⟩
      dsimp only at h3 h4 ⊢
      exact wpS_pure (h k Y3 (by omega) h3.2 (t3.wide (ZtE _) (by omega)) h4)
end
noncomputable abbrev Ze0:=Nat×Nat×Nat
noncomputable def Vw (R:Keyed->Keyed->Bool) (X:Array Keyed):Nat->List Ze0->Nat->Prop
 |s,[],e=>s=e
 |s,(c,n,_)::r,e=>c=s/\0<n/\Up R X c n/\Vw R X (s+n) r e
section
variable {prog:Program}{w:World}{A:Around}{E:Value->Shared->Prop}{s:Shared}{κ:SortKind}{U:Keyed->Prop}{R:Keyed->Keyed->Bool}
theorem Vw.le {X:Array Keyed}:∀{L:List Ze0}{a e:Nat},Vw R X a L e->a+L.length<=e
 |[],a,e,h=>by have h:a=e:=h;simp[h]
 |(c,n,p)::L,a,e,h=>by
  obtain⟨_,h1,_,h2⟩:=h
  have:=Vw.le h2
  simp only[Zua];omega
theorem Vw.app {X:Array Keyed}:∀{L M:List Ze0}{a e:Nat},Vw R X a (L++M) e ↔ ∃q,Vw R X a L q/\Vw R X q M e
 |[],M,a,e=>⟨fun h=>⟨a,rfl,h⟩,fun⟨q,h1,h2⟩=>by have h1:a=q:=h1;subst h1;exact h2⟩
 |(c,n,p)::L,M,a,e=>by
  show (c=a/\0<n/\Up R X c n/\Vw R X (a+n) (L++M) e) ↔ ∃q,(c=a/\0<n/\Up R X c n/\Vw R X (a+n) L q)/\Vw R X q M e
  constructor
  ·rintro⟨h1,h2,h3,h4⟩
   obtain⟨q,q1,q2⟩:=Vw.app.mp h4
   exact⟨q,⟨h1,h2,h3,q1⟩,q2⟩
  ·rintro⟨q,⟨h1,h2,h3,h4⟩,q2⟩
   exact⟨h1,h2,h3,Vw.app.mpr ⟨q,h4,q2⟩⟩
theorem Up.stir {X Y:Array Keyed}{lo m c n:Nat} (h:Up R X c n) (t:JY X Y lo m) (d:c+n<=lo\/lo+m<=c):Up R Y c n:=fun i j hij hj=>by
 rw[Vj (t.out (c+j) (by omega)),Vj (t.out (c+i) (by omega))]
 exact h i j hij hj
theorem Vw.stir {X Y:Array Keyed}{lo m:Nat} (t:JY X Y lo m):∀{L:List Ze0}{a e:Nat},Vw R X a L e->(e<=lo\/lo+m<=a)->Vw R Y a L e
 |[],a,e,h,_=>h
 |(c,n,p)::L,a,e,h,d=>by
  obtain⟨h1,h2,h3,h4⟩:=h
  have:=Vw.le h4
  exact⟨h1,h2,h3.stir t (by omega),Vw.stir t h4 (by omega)⟩
theorem Up.srt {X:Array Keyed}{c n:Nat} (h:Up R X c n) (hs:c+n<=X.size):Srt R ((X.toList.drop c).take n):=by
 refine Zuz.mpr fun i j hi hj hij=>?_
 have hi':i<n:=by rw[ZtR] at hi;omega
 have hj':j<n:=by rw[ZtR] at hj;omega
 have e:∀t,t<n->∀ht,((X.toList.drop c).take n)[t]'ht=gA X (c+t):=fun t htn ht=>by
  have h1:((X.toList.drop c).take n)[t]?=some (gA X (c+t)):=by
   rw[Zuq,if_pos htn,Zut,Zuh,QZ (by omega)]
  rw[Zt9 ht] at h1
  exact Option.some.inj h1
 rw[e i hi' hi,e j hj' hj]
 exact h i j hij hj'
theorem Srt.up {X:Array Keyed}{c n:Nat}{pre W post:List Keyed} (hX:X.toList=pre++(W++post)) (lp:pre.length=c) (lW:W.length=n) (h:Srt R W):Up R X c n:=fun i j hij hj=>by
 have g:∀t (ht:t<n),gA X (c+t)=W[t]'(by omega):=fun t ht=>by
  refine Zj5 ?_
  rw[<- Zuh,hX,ZtJ (by omega),lp,show c+t-c=t by omega,ZtI (by omega),Zt9 (by omega)]
 rw[g i (by omega),g j hj]
 exact Zuz.mp h i j (by omega) (by omega) hij
theorem Zhc {L M:List Ze0}{a b c:Ze0}{P:Array Ze0} (h:P.toList=L++a::b::M):(((P.setIfInBounds L.length c).eraseIdxIfInBounds (L.length+1))).toList=L++c::M:=by
 have hz:L.length+1<(P.setIfInBounds L.length c).size:=by
  have:=congrArg List.length h
  rw[ZtH] at this
  rw[Array.size_setIfInBounds,this];simp
 rw[Array.eraseIdxIfInBounds,dif_pos hz,Array.toList_eraseIdx,Zvz,h]
 rw[List.set_append_right _ _ (ZtE _),Zvj,Zv3,List.eraseIdx_append_of_length_le (by omega),show L.length+1-L.length=1 by omega]
 rfl
theorem ZaQ (C:Ut prog w A s κ U R) {st:SortSt}{L M:List Ze0}{c n p d m p2 e:Nat}{Q:Bool->SortSt->Prop} (hk:kindOf st=κ) (hf:failedOf st=none) (hU:ZcF U (arrOf st))
  (hp:(pendingOf st).toList=L++(c,n,p)::(d,m,p2)::M) (hr:Vw R (arrOf st) 0 (pendingOf st).toList e) (he:e<=(arrOf st).size)
  (h:∀st',kindOf st'=κ->failedOf st'=none->(pendingOf st').toList=L++(c,n+m,p)::M->JY (arrOf st) (arrOf st') c (n+m)->c+n+m<=e->Vw R (arrOf st') 0 (pendingOf st').toList e->Q true st') :
  wpS (model prog w) A E s (mergeAt' L.length) Q st:=by
 rw[hp] at hr
 obtain⟨q,r1,r2⟩:=Vw.app.mp hr
 obtain⟨rfl,n0,u1,rfl,m0,u2,r3⟩:=r2
 have le3:=Vw.le r3
 have hsz:c+n+m<=(arrOf st).size:=by omega
 have sp:(arrOf st).toList=(arrOf st).toList.take c++(((arrOf st).toList.drop c).take n++(((arrOf st).toList.drop (c+n)).take m++(arrOf st).toList.drop (c+n+m))):=by
  rw[VE,VE,ZtW]
 have lt:(arrOf st).toList.length=(arrOf st).size:=ZtH
 have inU:∀x∈(arrOf st).toList,U x:=fun x hx=>by
  obtain⟨i,hi⟩:=Zu4 hx
  have hl:=(ZtC.mp hi).1
  rw[Zuh] at hi
  rw[<- Zj5 hi]
  exact hU i (by omega)
 have i1:(pendingOf st)[L.length]?=some (c,n,p):=by
  rw[<- Zuh,hp,ZtJ (ZtE _),Zvj];rfl
 have i2:(pendingOf st)[L.length+1]?=some (c+n,m,p2):=by
  rw[<- Zuh,hp,ZtJ (by omega),show L.length+1-L.length=1 by omega];rfl
 refine ZbR C hk hf i1 i2 sp (by rw[ZtR];omega) (by rw[ZtR,Zu5];omega) (by rw[ZtR,Zu5];omega) rfl n0 m0
  (fun x hx=>inU x (Zuf (Zuc hx))) (fun x hx=>inU x (Zuf (Zuc hx))) (u1.srt (by omega)) (u2.srt (by omega)) fun st' W k1 k2 k3 k4 k5 k6=>?_
 have lW:W.length=n+m:=by rw[k6.length_eq,Zus,ZtR,ZtR,Zu5,Zu5];omega
 have lpre:((arrOf st).toList.take c).length=c:=by rw[ZtR];omega
 have hst:JY (arrOf st) (arrOf st') c (n+m):=by
  refine⟨?_,fun k hk'=>?_⟩
  ·refine Zv0.mpr ?_
   rw[k4]
   conv=>rhs;rw[sp]
   refine List.Perm.append_left _ ?_
   rw[<- ZtK]
   exact k6.append_right _
  ·rw[<- Zuh,<- Zuh,k4]
   rcases hk' with z|z
   ·rw[ZtI (by omega),Zuq,if_pos z]
   ·rw[ZtJ (by omega),lpre,ZtJ (by omega),lW,Zut]
    congr 1;omega
 have kp:(pendingOf st').toList=L++(c,n+m,p)::M:=by rw[k3];exact Zhc hp
 refine h st' k1 k2 kp hst (by omega) ?_
 rw[kp]
 refine Vw.app.mpr ⟨c,r1.stir hst (.inl (ZtE _)),rfl,by omega,Srt.up k4 lpre lW k5, ?_⟩
 rw[<- Nat.add_assoc]
 exact r3.stir hst (.inr (by omega))
structure RSt (κ:SortKind) (U:Keyed->Prop) (R:Keyed->Keyed->Bool) (X:Array Keyed) (lo:Nat) (st':SortSt):Prop where
 kd:kindOf st'=κ
 fl:failedOf st'=none
 pm:(arrOf st').Perm X
 us:ZcF U (arrOf st')
 rn:Vw R (arrOf st') 0 (pendingOf st').toList lo
 le:lo<=X.size
theorem RSt.sz {X:Array Keyed}{lo:Nat}{st':SortSt} (h:RSt κ U R X lo st'):(arrOf st').size=X.size:=h.pm.size_eq
theorem Vw.mod {X:Array Keyed}{f:Ze0->Ze0} (hf:∀c n p,∃p',f (c,n,p)=(c,n,p')):∀{L:List Ze0}{a e:Nat},Vw R X a L e->∀i,Vw R X a (L.modify i f) e
 |[],a,e,h,i=>by simpa using h
 |(c,n,p)::L,a,e,h,0=>by
  obtain⟨p',hp'⟩:=hf c n p
  rw[List.modify_zero_cons,hp']
  exact h
 |(c,n,p)::L,a,e,h,i+1=>by
  rw[List.modify_succ_cons]
  exact⟨h.1,h.2.1,h.2.2.1,Vw.mod hf h.2.2.2 i⟩
theorem Zkv {L:List Ze0}{i:Nat} (h:i+1<L.length):∃A a b B,L=A++a::b::B/\A.length=i:=by
 refine⟨L.take i,L[i],L[i+1],L.drop (i+2), ?_,by rw[ZtR];omega⟩
 rw[<- ZtS h,<- ZtS (by omega),ZtW]
theorem Uu (C:Ut prog w A s κ U R) {X:Array Keyed}{st1:SortSt}{lo i:Nat}{Q:Bool->SortSt->Prop} (S1:RSt κ U R X lo st1) (hi:i+1<(pendingOf st1).size)
  (h:∀st',RSt κ U R X lo st'->(pendingOf st').size+1=(pendingOf st1).size->(∀n,Up R (arrOf st1) lo n->Up R (arrOf st') lo n)->Q true st'):wpS (model prog w) A E s (mergeAt' i) Q st1:=by
 obtain⟨L,⟨c,n,p⟩,⟨d,m,p2⟩,M,hL,rfl⟩:=Zkv (L:=(pendingOf st1).toList) (by rw[ZtH];exact hi)
 refine ZaQ C S1.kd S1.fl S1.us hL S1.rn (by rw[S1.sz];exact S1.le) fun st' k1 k2 k3 k4 k5 k6=>h st' ⟨k1,k2,k4.perm.trans S1.pm,S1.us.stir k4,k6,S1.le⟩ ?_ fun q hq=>hq.stir k4 (.inr (by omega))
 have e1:=congrArg List.length hL
 have e2:=congrArg List.length k3
 rw[ZtH] at e1 e2
 simp only[Zus,Zua] at e1 e2
 omega
theorem ZbO (C:Ut prog w A s κ U R) {st:SortSt}{Q:Unit->SortSt->Prop} (hk:kindOf st=κ) (hf:failedOf st=none) (hU:ZcF U (arrOf st)) (hp:pendingOf st=#[])
  (h:∀st',failedOf st'=none->(arrOf st').Perm (arrOf st)->Up R (arrOf st') 0 (arrOf st).size->Q () st'):wpS (model prog w) A E s sortRuns' Q st:=by
 rw[sortRuns'_eq]
 refine wpS_bind (wpS_get ?_)
 dsimp only
 have S0:RSt κ U R (arrOf st) 0 st:=⟨hk,hf,Array.Perm.refl _,hU,by rw[hp];rfl,Zub _⟩
 generalize hX:arrOf st=X at S0 h
 refine wpS_bind (wpS_mono (wpS_forRange
  (I:=fun x (c:Option Unit×Nat) (st':SortSt)=>c.1=none/\RSt κ U R X c.2 st'/\(x<=c.2\/X.size<=c.2))
  (Q:=fun(c:Option Unit×Nat) (st':SortSt)=>c.1=none/\RSt κ U R X X.size st') ?step ?fin ⟨rfl,S0,.inl (ZtE _)⟩) ?post)
 case fin =>
  rintro⟨o,lo⟩ st' ⟨h1,h2,h3⟩
  dsimp only at h1 h2 h3 ⊢
  have:=h2.le
  obtain rfl:lo=X.size:=by omega
  exact⟨h1,h2⟩
 case step =>
  rintro x ⟨o,lo⟩ st1 _ hx ⟨rfl,S1,h3⟩
  dsimp only at S1 h3 ⊢
  have hle:=S1.le
  have hsz:=S1.sz
  by_cases e0:lo ≥ X.size
  ·rw[if_pos e0]
   obtain rfl:lo=X.size:=by omega
   exact wpS_pure ⟨rfl,S1⟩
  rw[if_neg e0]
  refine wpS_bind (Ze2 C S1.kd S1.us (show lo+(X.size-lo)<=_ by omega) (by omega) fun m Y m1 m2 t u=>?_)
  dsimp only
  have S1':RSt κ U R X lo (setArr st1 Y):=⟨S1.kd,S1.fl,t.perm.trans S1.pm,S1.us.stir t,S1.rn.stir t (.inl (ZtE _)),S1.le⟩
  by_cases e1:m<minRun' X.size X.size 0
  ·rw[if_pos e1]
   have f1:m<=min (X.size-lo) (minRun' X.size X.size 0):=by omega
   have f2:min (X.size-lo) (minRun' X.size X.size 0)<=X.size-lo:=Zvt _ _
   generalize min (X.size-lo) (minRun' X.size X.size 0)=N1 at f1 f2
   refine wpS_bind (wpS_lift (wpAny_rule ⟨rfl, ?_⟩))
   refine wpS_bind (ZiC C (show kindOf (setArr st1 Y)=κ from S1.kd) S1'.us (show lo+N1<=(arrOf (setArr st1 Y)).size by rw[S1'.sz];omega) f1 (by omega) u fun Y2 t2 u2=>?_)
   rw[if_neg (by decide)]
   have t2:JY Y Y2 lo N1:=t2
   have S2:RSt κ U R X lo (setArr st1 Y2):=⟨S1.kd,S1.fl,t2.perm.trans S1'.pm,S1'.us.stir t2,S1'.rn.stir t2 (.inl (ZtE _)),S1.le⟩
   show wpS _ _ _ _ _ _ (setArr st1 Y2)
   have PUSH:∀st3,RSt κ U R X lo st3->Up R (arrOf st3) lo (N1)->RSt κ U R X (lo+(N1)) (setPending st3 ((pendingOf st3).push (lo,N1,0))):=fun st3 S3 u3 =>
    ⟨S3.kd,S3.fl,S3.pm,S3.us,by
     show Vw R (arrOf st3) 0 ((pendingOf st3).push (lo,N1,0)).toList (lo+(N1))
     rw[Zvi]
     exact Vw.app.mpr ⟨lo,S3.rn,rfl,by omega,u3,rfl⟩,by omega⟩
   refine wpS_bind (wpS_get ?_)
   cases hb:(pendingOf (setArr st1 Y2)).back? with
   |none =>
    dsimp only
    exact wpS_bind (wpS_modify (wpS_pure ⟨rfl,PUSH _ S2 u2,.inl (by dsimp only;omega)⟩))
   |some q =>
    obtain⟨s1,n1,p1⟩:=q
    dsimp only
    refine wpS_bind (wpS_mono (wpS_forRange
     (I:=fun _ (c:Option Unit×Unit) (st':SortSt)=>c.1=none/\RSt κ U R X lo st'/\Up R (arrOf st') lo (N1))
     (Q:=fun(c:Option Unit×Unit) (st':SortSt)=>c.1=none/\RSt κ U R X lo st'/\Up R (arrOf st') lo (N1)) ?_ (fun c st' hc=>hc) ⟨rfl,S2,u2⟩) ?_)
    ·rintro y ⟨o,_⟩ st3 _ hy ⟨rfl,S3,u3⟩
     refine wpS_bind (wpS_get ?_)
     by_cases hsz3:(pendingOf st3).size>1
     ·rw[if_pos hsz3]
      have hg:(pendingOf st3)[(pendingOf st3).size-2]?=some ((pendingOf st3)[(pendingOf st3).size-2]'(by omega)):=ZuR (by omega)
      rw[hg]
      generalize (pendingOf st3)[(pendingOf st3).size-2]'(by omega)=q3 at hg
      obtain⟨a3,b3,older⟩:=q3
      dsimp only
      split
      ·exact wpS_pure ⟨rfl,S3,u3⟩
      ·refine wpS_bind (Uu C S3 (by omega) fun st4 S4 _ up4=>?_)
       rw[if_neg (by decide)]
       exact wpS_pure ⟨rfl,S4,up4 _ u3⟩
     ·rw[if_neg hsz3]
      exact wpS_pure ⟨rfl,S3,u3⟩
    ·rintro⟨o,_⟩ st3 ⟨h1,S3,u3⟩
     dsimp only at h1
     subst h1
     dsimp only
     refine wpS_bind (wpS_modify (wpS_bind (wpS_modify (wpS_pure ⟨rfl, ?_,.inl (by dsimp only;omega)⟩))))
     refine PUSH (setPending st3 _) ⟨S3.kd,S3.fl,S3.pm,S3.us, ?_,S3.le⟩ u3
     show Vw R (arrOf st3) 0 ((pendingOf st3).modify _ _).toList lo
     rw[Array.toList_modify]
     exact S3.rn.mod (fun _ _ _=>⟨_,rfl⟩) _
  ·rw[if_neg e1]
   have S2:=S1'
   have u2:=u
   have PUSH:∀st3,RSt κ U R X lo st3->Up R (arrOf st3) lo (m)->RSt κ U R X (lo+(m)) (setPending st3 ((pendingOf st3).push (lo,m,0))):=fun st3 S3 u3 =>
    ⟨S3.kd,S3.fl,S3.pm,S3.us,by
     show Vw R (arrOf st3) 0 ((pendingOf st3).push (lo,m,0)).toList (lo+(m))
     rw[Zvi]
     exact Vw.app.mpr ⟨lo,S3.rn,rfl,by omega,u3,rfl⟩,by omega⟩
   refine wpS_bind (wpS_get ?_)
   cases hb:(pendingOf (setArr st1 Y)).back? with
   |none =>
    dsimp only
    exact wpS_bind (wpS_modify (wpS_pure ⟨rfl,PUSH _ S2 u2,.inl (by dsimp only;omega)⟩))
   |some q =>
    obtain⟨s1,n1,p1⟩:=q
    dsimp only
    refine wpS_bind (wpS_mono (wpS_forRange
     (I:=fun _ (c:Option Unit×Unit) (st':SortSt)=>c.1=none/\RSt κ U R X lo st'/\Up R (arrOf st') lo (m))
     (Q:=fun(c:Option Unit×Unit) (st':SortSt)=>c.1=none/\RSt κ U R X lo st'/\Up R (arrOf st') lo (m)) ?_ (fun c st' hc=>hc) ⟨rfl,S2,u2⟩) ?_)
    ·rintro y ⟨o,_⟩ st3 _ hy ⟨rfl,S3,u3⟩
     refine wpS_bind (wpS_get ?_)
     by_cases hsz3:(pendingOf st3).size>1
     ·rw[if_pos hsz3]
      have hg:(pendingOf st3)[(pendingOf st3).size-2]?=some ((pendingOf st3)[(pendingOf st3).size-2]'(by omega)):=ZuR (by omega)
      rw[hg]
      generalize (pendingOf st3)[(pendingOf st3).size-2]'(by omega)=q3 at hg
      obtain⟨a3,b3,older⟩:=q3
      dsimp only
      split
      ·exact wpS_pure ⟨rfl,S3,u3⟩
      ·refine wpS_bind (Uu C S3 (by omega) fun st4 S4 _ up4=>?_)
       rw[if_neg (by decide)]
       exact wpS_pure ⟨rfl,S4,up4 _ u3⟩
     ·rw[if_neg hsz3]
      exact wpS_pure ⟨rfl,S3,u3⟩
    ·rintro⟨o,_⟩ st3 ⟨h1,S3,u3⟩
     dsimp only at h1
     subst h1
     dsimp only
     refine wpS_bind (wpS_modify (wpS_bind (wpS_modify (wpS_pure ⟨rfl, ?_,.inl (by dsimp only;omega)⟩))))
     refine PUSH (setPending st3 _) ⟨S3.kd,S3.fl,S3.pm,S3.us, ?_,S3.le⟩ u3
     show Vw R (arrOf st3) 0 ((pendingOf st3).modify _ _).toList lo
     rw[Array.toList_modify]
     exact S3.rn.mod (fun _ _ _=>⟨_,rfl⟩) _
 case post =>
  rintro⟨o,lo⟩ st1 ⟨h1,S1⟩
  dsimp only at h1
  subst h1
  dsimp only
  refine wpS_bind (wpS_mono (wpS_forRange
   (I:=fun x (c:Option Unit×Unit) (st':SortSt)=>c.1=none/\RSt κ U R X X.size st'/\((pendingOf st').size+x<=X.size\/(pendingOf st').size<=1))
   (Q:=fun(c:Option Unit×Unit) (st':SortSt)=>c.1=none/\RSt κ U R X X.size st'/\(pendingOf st').size<=1) ?_ ?_ ⟨rfl,S1,.inl ?_⟩) ?_)
  ·rintro x ⟨o,_⟩ st3 _ hx ⟨rfl,S3,h3⟩
   refine wpS_bind (wpS_get ?_)
   by_cases e1:(pendingOf st3).size<=1
   ·rw[if_pos e1]
    exact wpS_pure ⟨rfl,S3,e1⟩
   ·rw[if_neg e1]
    refine wpS_bind (Uu C S3 ?_ fun st4 S4 z4 _=>?_)
    ·have hp3:1<(pendingOf st3).size:=Nat.lt_of_not_le e1
     have both:∀(b:Prop) [Decidable b],(if b then (pendingOf st3).size-2-1 else (pendingOf st3).size-2)+1<(pendingOf st3).size:=fun b _=>by
      by_cases hb:b
      ·rw[if_pos hb];omega
      ·rw[if_neg hb];omega
     exact both _
    ·rw[if_neg (by decide)]
     exact wpS_pure ⟨rfl,S4,by omega⟩
  ·rintro⟨o,_⟩ st3 ⟨h1,S3,h3⟩
   have:=Vw.le S3.rn
   rw[ZtH] at this
   exact⟨h1,S3,by omega⟩
  ·have:=Vw.le S1.rn
   rw[ZtH] at this
   omega
  ·rintro⟨o,_⟩ st3 ⟨h1,S3,h3⟩
   dsimp only at h1
   subst h1
   refine wpS_pure (h st3 S3.fl S3.pm ?_)
   have rn:=S3.rn
   have hl:(pendingOf st3).toList.length<=1:=by rw[ZtH];exact h3
   match hL:(pendingOf st3).toList with
   |[] =>
    rw[hL] at rn
    have z:0=X.size:=rn
    intro i j _ hj
    omega
   |[(c,n,p)] =>
    rw[hL] at rn
    obtain⟨rfl,_,z1,z2⟩:=rn
    have z2:0+n=X.size:=z2
    rw[<- z2,Zuu];exact z1
   |_::_::_ =>
    rw[hL] at hl
    simp at hl
end
end L2
namespace L2
open PySem PySem.Spec PyProof.Rows
section
end
theorem Zmb {g:Bool->Bool}{m n:Nat}{x y:PV} (hx:Dat m x) (hy:Dat n y) (h1:m<=64:=by decide) (h2:n<=64:=by decide):US g x y=.ok (.bl (g (PyData.eqv x.dat y.dat))):=by
 unfold US
 rw[hx.ok h1,hy.ok h2,Bool.and_self,if_pos rfl]
theorem Zd4 {α:Type} [DecidableEq α] {q:α->PV} (h:∀a b,PyData.eqv (q a).dat (q b).dat=decide (a=b)):∀L M:List α,PyData.eqvAll (PV.dats (L.map q)) (PV.dats (M.map q))=decide (L=M)
 |[],[]=>by simp[PV.dats,PyData.eqvAll]
 |[],b::M=>by simp[PV.dats,PyData.eqvAll]
 |a::L,[]=>by simp[PV.dats,PyData.eqvAll]
 |a::L,b::M=>by
  simp only[ZtP,PV.dats,PyData.eqvAll,h a b,Zd4 h L M,List.cons.injEq]
  by_cases c:a=b<;>by_cases d:L=M<;>simp[c,d]
theorem Zh9 (a b:List Int):PyData.eqv (Vp a).dat (Vp b).dat=decide (a=b):=by
 simp only[Vp,PV.dat,Uq,PyData.eqv,Vk]
theorem ZaF (M:List (List Int)):Dat 2 (.lst (M.map Vp)):=Zcx fun x hx=>by
 obtain⟨q,_,rfl⟩:=ZtY.mp hx
 exact Ur q
theorem Zhn {g:Bool->Bool} (L M:List (List Int)):US g (.lst (L.map Vp)) (.lst (M.map Vp))=.ok (.bl (g (decide (L=M)))):=by
 rw[Zmb (ZaF L) (ZaF M)]
 simp only[PV.dat,PyData.eqv,Zd4 Zh9]
theorem Zlj {α:Type}{f:PV->Rr (Option PV)}{q:α->PV}{p:α->Bool}{g:α->PV}{L:List α} (h:∀x∈L,f (q x)=.ok (if p x=true then some (g x) else none)):ZgD f (L.map q)=.ok ((L.filter p).map g):=by
 induction L with
 |nil=>rfl
 |cons a l ih =>
  simp only[ZtP,ZgD,h a (by simp),Rr.bind_ok,ih fun z hz=>h z (by simp[hz])]
  cases hp:p a<;>simp[hp,List.filter_cons]
noncomputable def minus (H:Hp) (G:List Addr):Hp:=fun a=>if a∈G then none else H a
theorem Zdr {H:Hp}{G:List Addr}{a:Addr} (h:a∈G):minus H G a=none:=if_pos h
theorem ZT {H:Hp}{G:List Addr}{a:Addr} (h:a ∉ G):minus H G a=H a:=if_neg h
theorem Zea {H:Hp}{G:List Addr}:Z7 (minus H G) H:=fun a o h=>by
 unfold minus at h
 split at h
 ·cases h
 ·exact h
theorem Rd.minus {H:Hp}{G:List Addr}{a:Addr}{u:HO} (h:Rd H a u) (n:a ∉ G):Rd (minus H G) a u:=by
 rcases h with h|⟨o,h⟩
 ·exact .inl (by rw[ZT n];exact h)
 ·exact .inr ⟨o,by rw[ZT n];exact h⟩
theorem Im.minus {K:W.Frag}{H:Hp}{G:List Addr}{a:Addr}{k:HO} (hG:∀b∈G,∃vs:LvO,H b=some vs.1) (h:Im K H a k):Im K (minus H G) a k:=by
 refine⟨?_,h.2⟩
 rw[ZT fun z=>?_]
 ·exact h.1
 ·obtain⟨vs,q⟩:=hG a z
  exact Za4 vs.2 h.2 (by rw[h.1] at q;exact Option.some.inj q)
section
variable {K:W.Frag}{B:Addr->Prop}{H0 H H':Hp}{σ:St}{Γ:List Md}{ρ:List PV}{F:Nat->List Addr}
theorem Ag.lost {G:List Addr} (A:Ag K B H0 H σ Γ ρ F (G++[])) (s:Z7 (minus H G) H'):Ag K B H0 H' σ Γ ρ F []:=by
 have hG:∀b∈G,∃vs:LvO,H b=some vs.1:=fun b hb=>A.liveR b (by simp[hb])
 refine⟨fun a o h=>s a o ?_,A.own,A.young,by simp,fun i a ha=>?_,by simp,A.disj,by simp,A.lenS,A.lenR,fun i=>?_⟩
 ·rw[ZT (fun z=>by have:=A.youngR a (by simp[z]);rw[h] at this;cases this)]
  exact A.same a o h
 ·obtain⟨vs,q⟩:=A.live i a ha
  exact⟨vs,s _ _ (by rw[ZT (fun z=>A.disjR i a ha (by simp[z]))];exact q)⟩
 ·refine(A.slot i).mono (fun a vs n r=>⟨(r.minus (fun z=>n.2.1 (by simp[z]))).same s,n.1,by simp,n.2.2⟩) (fun a vs r=>s.im (r.minus hG)) fun a ha vs q=>s _ _ (by rw[ZT (fun z=>A.disjR i a ha (by simp[z]))];exact q)
end
noncomputable def pGo (f:PV->Rr PV):PV->List Int->Rr PV
 |x,[]=>f x
 |.lst xs,c::cs=>match ixN xs.length c with
  |some n=>(pGo f (xs.getD n .non) cs).bind fun z=>.ok (.lst (xs.set n z))
  |none=>.bad
 |.tup xs,c::cs=>match ixN xs.length c with
  |some n=>(pGo f (xs.getD n .non) cs).bind fun z=>.ok (.tup (xs.set n z))
  |none=>.bad
 |_,_::_=>.bad
noncomputable def AtP (K:W.Frag) (H:Hp):V->List Int->V->Prop
 |v,[],u=>u=v
 |v,c::cs,u=>∃a vs w,v=.ref a/\(SqL K H a vs\/SqT K H a vs)/\atI vs c=some w/\AtP K H w cs u
section
variable {K:W.Frag}{H:Hp}
theorem AtP.snoc {u:V}{c:Int}:∀{cs:List Int}{v:V},AtP K H v (cs++[c]) u->∃w,AtP K H v cs w/\AtP K H w [c] u
 |[],v,h=>⟨v,rfl,h⟩
 |_::cs,v,h=>by
  obtain⟨a,vs,w,rfl,h1,h2,h3⟩:=h
  obtain⟨z,h4,h5⟩:=AtP.snoc h3
  exact⟨z,⟨a,vs,w,rfl,h1,h2,h4⟩,h5⟩
theorem Trees.part:∀{xs:List PV}{vs:List V}{G:List Addr}{j:Nat}{y:PV},Trees K H xs vs G->xs[j]?=some y->∃v G2,vs[j]?=some v/\ZZ K H y v G2/\(∀a∈G2,a∈G) /\
  ∀(p:Addr) (us:List V) (o:HO) (y':PV) (G3:List Addr),H p=some (.lst us)->p∈G2->(∀a∈G3,a∈G2)->ZZ K (upd H p o) y' v G3->∃G',(∀a∈G',a∈G)/\Trees K (upd H p o) (xs.set j y') vs G'
 |[],_,_,_,_,_,e=>by simp at e
 |x::xs,_,_,0,y,h,e=>by
  obtain⟨w,r,G1,G2,rfl,h1,h2,h3,rfl⟩:=h
  simp at e;subst e
  refine⟨w,G1,rfl,h1,fun a ha=>by simp[ha],fun p us o y' G3 hp hpG hs ht=>⟨G3++G2,fun a ha=>?_,w,r,G3,G2,rfl,ht,Trees.put hp (h3 p hpG) h2,fun a ha=>h3 a (hs a ha),rfl⟩⟩
  rcases ZtD.mp ha with z|z
  ·simp[hs a z]
  ·simp[z]
 |x::xs,_,_,j+1,y,h,e=>by
  obtain⟨w,r,G1,G2,rfl,h1,h2,h3,rfl⟩:=h
  obtain⟨v,G4,e1,e2,e3,e4⟩:=Trees.part h2 (j:=j) (by simpa using e)
  refine⟨v,G4,by simpa using e1,e2,fun a ha=>by simp[e3 a ha],fun p us o y' G3 hp hpG hs ht=>?_⟩
  obtain⟨G',c2,c3⟩:=e4 p us o y' G3 hp hpG hs ht
  refine⟨G1++G',fun a ha=>?_,w,r,G1,G',rfl,ZZ.put hp (fun z=>h3 p z (e3 p hpG)) h1,c3,fun a ha z=>h3 a ha (c2 a z),rfl⟩
  rcases ZtD.mp ha with z|z
  ·simp[z]
  ·simp[c2 a z]
theorem ZZ.chgP {j:Int}:∀{cs:List Int}{x x':PV}{v:V}{G:List Addr},ZZ K H x v G->pGo (fun z=>pApp z (.int j)) x cs=.ok x' ->
  ∃p us,AtP K H v cs (.ref p)/\H p=some (.lst us)/\us.length<sizeLine/\p∈G/\∃G',(∀a∈G',a∈G)/\ZZ K (upd H p (.lst (us++[.int j]))) x' v G'
 |[],x,x',v,G,h,e=>by
  have d:Dn (pApp x (.int j)) (fun y=>y=x') (fun _=>False):=by
   have e:pApp x (.int j)=.ok x':=by cases x<;>exact e
   rw[e];exact rfl
  obtain⟨ys,rfl,hlen,rfl⟩:=Dn.pApp d
  obtain⟨p,us,G4,rfl,hH,hu,hn,rfl⟩:=h
  refine⟨p,us,rfl,hH,by rw[hu.length];exact ZtM hlen (by decide),by simp,p::G4,fun b hb=>hb,p,_,G4,rfl,ZD, ?_,hn,rfl⟩
  have:=Trees.append (Trees.put (o:=.lst (us++[.int j])) hH hn hu) (Trees.one (x:=.int j) (v:=.int j) (F:=[]) ⟨rfl,rfl⟩) (by simp)
  rw[Zu9] at this
  exact this
 |c::cs,.lst xs,x',v,G,h,e=>by
  simp only[pGo] at e
  cases en:ixN xs.length c with
  |none=>rw[en] at e;cases e
  |some n =>
   rw[en] at e
   dsimp only at e
   cases ez:pGo (fun z=>pApp z (.int j)) (xs.getD n .non) cs with
   |bad=>rw[ez] at e;cases e
   |exc q=>rw[ez] at e;cases e
   |ok z =>
    rw[ez] at e
    cases e
    have hnl:=(U4 en).2.1
    have hx:xs[n]?=some (xs.getD n .non):=by rw[Zt8,Zt9 hnl];rfl
    obtain⟨a,vs,G1,rfl,ha,ht,hna,rfl⟩:=h
    obtain⟨w,G2,e1,e2,e3,e4⟩:=ht.part hx
    obtain⟨p,us,p1,p2,p3,p4,G3,p5,p6⟩:=ZZ.chgP e2 ez
    obtain⟨G',c2,c3⟩:=e4 p us _ _ G3 p2 p4 p5 p6
    refine⟨p,us,⟨a,vs,w,rfl,.inl (SqL.of ha),by unfold atI;rw[ht.length,en];exact e1,p1⟩,p2,p3,by simp[e3 p p4],a::G',fun b hb=>?_,a,vs,G',rfl, ?_,c3,fun z=>hna (c2 a z),rfl⟩
    ·rcases ZtN.mp hb with rfl|hb
     ·simp
     ·simp[c2 b hb]
    ·rw[Z1 (fun z=>hna (by rw[z];exact e3 p p4))];exact ha
 |c::cs,.tup xs,x',v,G,h,e=>by
  simp only[pGo] at e
  cases en:ixN xs.length c with
  |none=>rw[en] at e;cases e
  |some n =>
   rw[en] at e
   dsimp only at e
   cases ez:pGo (fun z=>pApp z (.int j)) (xs.getD n .non) cs with
   |bad=>rw[ez] at e;cases e
   |exc q=>rw[ez] at e;cases e
   |ok z =>
    rw[ez] at e
    cases e
    have hnl:=(U4 en).2.1
    have hx:xs[n]?=some (xs.getD n .non):=by rw[Zt8,Zt9 hnl];rfl
    obtain⟨a,vs,rfl,ha,ht⟩:=h
    obtain⟨w,G2,e1,e2,e3,e4⟩:=ht.part hx
    obtain⟨p,us,p1,p2,p3,p4,G3,p5,p6⟩:=ZZ.chgP e2 ez
    obtain⟨G',c2,c3⟩:=e4 p us _ _ G3 p2 p4 p5 p6
    exact⟨p,us,⟨a,vs,w,rfl,.inr ha.sqT,by unfold atI;rw[ht.length,en];exact e1,p1⟩,p2,p3,e3 p p4,G',c2,a,vs,rfl,SqT.put p2 ha,c3⟩
 |_::_,.non,_,_,_,_,e=>by cases e
 |_::_,.bl _,_,_,_,_,e=>by cases e
 |_::_,.int _,_,_,_,_,e=>by cases e
 |_::_,.str _,_,_,_,_,e=>by cases e
 |_::_,.exc _,_,_,_,_,e=>by cases e
 |_::_,.exa _ _,_,_,_,_,e=>by cases e
 |_::_,.box _ _ _,_,_,_,_,e=>by cases e
theorem QV (x y:PV) (e:PX):pApp x y≠.exc e:=by
 unfold pApp
 intro h
 split at h
 ·split at h<;>cases h
 ·cases h
theorem Ub {f:PV->Rr PV} (hf:∀x e,f x≠.exc e):∀(cs:List Int) (x:PV) (e:PX),pGo f x cs≠.exc e
 |[],x,e=>by
  have:pGo f x []=f x:=by cases x<;>rfl
  rw[this];exact hf x e
 |c::cs,x,e=>by
  intro h
  cases x with
  |lst xs =>
   simp only[pGo] at h
   split at h
   ·rename_i n _
    cases ez:pGo f (xs.getD n .non) cs with
    |ok z=>rw[ez] at h;cases h
    |bad=>rw[ez] at h;cases h
    |exc q=>exact Ub hf cs _ _ ez
   ·cases h
  |tup xs =>
   simp only[pGo] at h
   split at h
   ·rename_i n _
    cases ez:pGo f (xs.getD n .non) cs with
    |ok z=>rw[ez] at h;cases h
    |bad=>rw[ez] at h;cases h
    |exc q=>exact Ub hf cs _ _ ez
   ·cases h
  |_=>cases h
def DPa (K:W.Frag) (Γ:List Md) (i:Nat) (tp:TE) (ix:List PV->Rr (List Int)):Prop:=(∀ρ e,ix ρ≠.exc e) /\
 ∀(B:Addr->Prop) (H0 H:Hp) (σ:St) (ρ:List PV) (F:Nat->List Addr) (R:List Addr) (cs:List Int) (v u:V) (Q:VK),Ag K B H0 H σ Γ ρ F R->ix ρ=.ok cs->σ[i]?=some (some v)->AtP K H v cs u->Q u H->tp σ H Q
variable {Γ Γ1 Γ2:List Md}{i:Nat}{tp:TE}{ix:List PV->Rr (List Int)}{EX:PX->Hp->Prop}{k:Kd}
theorem ZfS:DPa K Γ i (ZaW i) (fun _=>.ok []):=⟨fun ρ e h=>(by cases h),fun B H0 H σ ρ F R cs v u Q A e hv h q=>by
 cases e
 cases h
 exact⟨v,hv,q⟩⟩
theorem Zic {w u:V}{c:Int}{Q:VK} (h:AtP K H w [c] u) (q:Q u H):rIx K w (.int c) H Q:=by
 obtain⟨a,vs,z,rfl,hs,ha,rfl⟩:=h
 rcases hs with hs|hs
 ·exact .inl ⟨a,vs,c,u,rfl,rfl,hs,ha,q⟩
 ·exact .inr (.inl ⟨a,vs,c,u,rfl,rfl,hs,ha,q⟩)
theorem ZfT {c:Int} (h:DPa K Γ i tp ix):DPa K Γ i (tOp (rIx K) tp (tC (.int c))) (fun ρ=>(ix ρ).bind fun cs=>.ok (cs++[c])):=by
 refine⟨fun ρ e z=>?_,fun B H0 H σ ρ F R cs v u Q A e hv ha q=>?_⟩
 ·dsimp only at z
  cases ec:ix ρ with
  |bad=>rw[ec] at z;cases z
  |exc q=>exact h.1 ρ q ec
  |ok ds=>rw[ec] at z;cases z
 dsimp only at e
 cases ec:ix ρ with
 |bad=>rw[ec] at e;cases e
 |exc q=>rw[ec] at e;cases e
 |ok ds =>
  rw[ec] at e
  cases e
  obtain⟨w,h1,h2⟩:=ha.snoc
  exact h.2 B H0 H σ ρ F R ds v w _ A ec hv h1 (Zic h2 q)
theorem ZjB {l:Nat}{m:Md} (hl:Γ[l]?=some m) (hm:m≠.U) (h:DPa K Γ i tp ix):DPa K Γ i (tOp (rIx K) tp (ZaW l)) (fun ρ=>(ix ρ).bind fun cs=>(asI (gv l ρ)).bind fun c=>.ok (cs++[c])):=by
 refine⟨fun ρ e z=>?_,fun B H0 H σ ρ F R cs v u Q A e hv ha q=>?_⟩
 ·dsimp only at z
  cases ec:ix ρ with
  |bad=>rw[ec] at z;cases z
  |exc q=>exact h.1 ρ q ec
  |ok ds =>
   rw[ec] at z
   cases eg:gv l ρ with
   |int c=>rw[eg] at z;cases z
   |_=>rw[eg] at z;cases z
 dsimp only at e
 cases ec:ix ρ with
 |bad=>rw[ec] at e;cases e
 |exc q=>rw[ec] at e;cases e
 |ok ds =>
  rw[ec] at e
  obtain⟨z,z1,z2⟩:=A.getA hl hm
  cases eg:gv l ρ with
  |int c =>
   rw[eg] at e
   cases e
   obtain⟨w,h1,h2⟩:=ha.snoc
   rw[show ρ.getD l .non=.int c from eg] at z2
   cases z2
   exact h.2 B H0 H σ ρ F R ds v w _ A ec hv h1 ⟨_,z1,Zic h2 q⟩
  |_=>rw[eg] at e;cases e
theorem Zeo {j:Int} (hm:Γ[i]?=some .O) (hp:DPa K Γ i tp ix):DS K EX Γ ⟨Γ,Γ1,Γ2,k⟩ (ZdO (tBM K "list" Zas tp (Qb (tC (.int j)) Zey)))
  (fun ρ=>(ix ρ).thenS fun cs=>(pGo (fun z=>pApp z (.int j)) (gv i ρ) cs).thenS fun w=>.next (ρ.set i w)):=fun B H0 H σ ρ F D A d=>by
 have d1:=d.thenS
 cases ec:ix ρ with
 |bad=>rw[ec] at d1;exact d1.elim
 |exc q=>exact(hp.1 ρ q ec).elim
 |ok cs =>
  rw[ec] at d1
  have d2:=DnS.thenS d1
  obtain⟨v,h1,h2⟩:=A.getO hm
  cases ep:pGo (fun z=>pApp z (.int j)) (gv i ρ) cs with
  |bad=>rw[ep] at d2;exact d2.elim
  |exc q=>exact(Ub (fun x e=>QV _ _ e) _ _ _ ep).elim
  |ok w =>
   rw[ep] at d2
   obtain⟨p,us,p1,p2,p3,c1,G',c2,c3⟩:=ZZ.chgP h2 ep
   refine hp.2 B H0 H σ ρ F [] cs v (.ref p) _ A ec h1 p1 ⟨.inl ⟨rfl,_,SqL.of p2⟩,p,us,.int j,rfl,rfl,p2,p3, ?_⟩
   exact d2 σ _ (Vo F i G') (V3 (Z7.refl _) (fun _ _ h=>h) c1 fun b hb=>.inr ⟨i,c2 b hb⟩) (Ag.chg (G:=[]) A hm c1 (fun b hb=>.inl (c2 b hb)) (by simp) ⟨_,h1,c3⟩)
end
noncomputable def frz (m:Md):Md:=if m=.O\/m=.T then .S else m
section
variable {K:W.Frag}{B:Addr->Prop}{H0 H:Hp}{σ:St}{Γ:List Md}{ρ:List PV}{F:Nat->List Addr}{R:List Addr}
theorem Ag.freezeAll (A:Ag K B H0 H σ Γ ρ F R):Ag K B H0 H σ (Γ.map frz) ρ (fun _=>[]) R:=by
 refine⟨A.same,A.own,by simp,A.youngR,by simp,A.liveR,by simp,by simp,by simp[A.lenS],by simp[A.lenR],fun i=>?_⟩
 have sl:=A.slot i
 have e:(Γ.map frz).getD i .U=frz (Γ.getD i .U):=by
  rw[Zt8,Zt8,ZtT]
  cases Γ[i]?<;>rfl
 rw[e]
 have up:∀{a},NO B F R a->NO B (fun _=>[]) R a:=fun {a} s=>⟨s.1,s.2.1,by simp⟩
 have ow:∀a∈F i,NO B (fun _=>[]) R a:=fun a ha=>⟨A.own a (A.young i a ha),A.disjR i a ha,by simp⟩
 cases hm:Γ.getD i .U with
 |U=>exact rfl
 |P=>rw[hm] at sl;exact⟨rfl,sl.2⟩
 |S =>
  rw[hm] at sl
  obtain⟨_,v,h1,h2⟩:=sl
  exact⟨rfl,v,h1,Rep.mono (fun a vs s r=>⟨r,up s⟩) (fun a vs r=>r) h2⟩
 |T =>
  rw[hm] at sl
  obtain⟨a,vs,xs,h1,h2,h3,h4,h5⟩:=sl
  refine⟨rfl,.ref a,h1, ?_⟩
  rw[h2]
  exact⟨a,vs,rfl,.inl ⟨.inl h3,ow a (by rw[h5];simp)⟩,Reps.mono (fun a vs s r=>⟨r,up s⟩) (fun a vs r=>r) h4⟩
 |O =>
  rw[hm] at sl
  obtain⟨v,h1,h2⟩:=sl
  exact⟨rfl,v,h1,h2.rep ow⟩
end
end L2
namespace HL
open PySem PyProof.Rows
section
open PySem.SeqAt
open PySem.AutoSeq1 (wpAny_loadPart')
open PySem.MeetsSeq PySem.MeetsSeq2 PySem.MeetsSeq3 SeqRoads2
end
section
end
end HL
namespace L2
open PySem PySem.Spec PyProof.Rows
section
end
def G0 (K:W.Frag) (B:Addr->Prop) (H0 H:Hp) (σ:St) (Γb:List Md) (ρ:List PV) (L v:Nat) (a:Addr) (vs:List V) (xs:List PV) (G Gx:List Addr):Prop:=
 Ag K B H0 H σ Γb ρ (fun _=>[]) (a::(G++Gx))/\σ[L]?=some (some (.ref a))/\gv L ρ=.lst xs/\H a=some (.lst vs)/\Trees K H xs vs G/\a ∉ G/\∃w,σ[v]?=some (some w)/\vs[0]?=some w/\xs[0]?=some (gv v ρ)
section
end
section
open Builtin Builtin.Str
end
section
variable {K:W.Frag}{B:Addr->Prop}{EX:PX->Hp->Prop}{H0 H:Hp}{σ:St}{Γ Γ':List Md}{ρ:List PV}{F:Nat->List Addr}{R:List Addr}
theorem Zgb {ta:TA}{fa:List PV->Rr (List PV)} (ha:DAA K EX Γ Γ' ta fa):DE K EX Γ Γ' .A (ZlD ta) (fun ρ=>(fa ρ).bind mkL):=fun B H0 H σ ρ F R Q A d=>by
 refine ha B H0 H σ ρ F R _ A (d.bind.imp (fun xs _ d vs H1 F1 s1 f1 p1 A1=>?_) fun e q=>q)
 obtain⟨hl,d⟩:=Dn.mkL d
 refine⟨by rw[p1.length];exact UT hl,fun p hp=>?_⟩
 have e:=Z7.new (H:=H1) (o:=.lst vs) hp
 exact d _ _ (s1.trans e) ⟨F1,f1,⟨p,vs,rfl,.inl ⟨.inl ZD,trivial⟩,p1.same e⟩,A1.grow e⟩
end
section
variable {κ:Type} [DecidableEq κ]
noncomputable def Ze7 (kvs:List (κ×V)) (k:κ):Option V:=(kvs.find? fun kv=>decide (kv.1=k)).map (·.2)
noncomputable def Zez (kvs:List (κ×V)) (k:κ) (v:V):List (κ×V):=
 if (kvs.any fun kv=>decide (kv.1=k))=true then kvs.map (fun kv=>if kv.1=k then (kv.1,v) else kv) else kvs++[(k,v)]
theorem UJ {p:κ×V}{r:List (κ×V)}{k:κ} (e:p.1=k):Ze7 (p::r) k=some p.2:=by simp[Ze7,ZuN,e]
theorem UK {p:κ×V}{r:List (κ×V)}{k:κ} (e:¬p.1=k):Ze7 (p::r) k=Ze7 r k:=by simp[Ze7,ZuN,e]
theorem ZcI (k:κ):∀kvs:List (κ×V),(kvs.any fun kv=>decide (kv.1=k))=(Ze7 kvs k).isSome
 |[]=>rfl
 |p::r=>by
  rw[ZuH]
  by_cases e:p.1=k
  ·simp only[UJ e,decide_eq_true e,Bool.true_or,Option.isSome_some]
  ·rw[UK e,decide_eq_false e,Bool.false_or];exact ZcI k r
theorem Qy (kvs:List (κ×V)) (k:κ) (v:V):(Zez kvs k v).length<=kvs.length+1:=by
 unfold Zez
 split
 ·rw[ZtG];omega
 ·rw[Zus,Zua,ZuO];omega
theorem ZgG.isSome_eq {o:Option V}{u:Option Value} (r:ZgG o u):o.isSome=u.isSome:=by
 cases o with
 |none=>cases u with
  |none=>rfl
  |some _=>exact(show False from r).elim
 |some _=>cases u with
  |none=>exact(show False from r).elim
  |some _=>rfl
theorem KV.val {kvs:List (κ×V)}{vs:List (κ×Value)} (r:KV kvs vs) (k:κ):ZgG (Ze7 kvs k) (valueAt vs k):=by
 unfold KV at r
 induction r with
 |nil=>exact True.intro
 |@cons p q ps qs h t ih =>
  obtain⟨h1,h2⟩:=h
  by_cases e:p.1=k
  ·have e':q.1=k:=h1.symm.trans e
   have b:valueAt (q::qs) k=some q.2:=by simp[valueAt,ZuN,e']
   rw[UJ e,b];exact h2
  ·have e':¬q.1=k:=fun z=>e (h1.trans z)
   have b:valueAt (q::qs) k=valueAt qs k:=by simp[valueAt,ZuN,e']
   rw[UK e,b];exact ih
theorem KV.any {kvs:List (κ×V)}{vs:List (κ×Value)} (r:KV kvs vs) (k:κ):(kvs.any fun kv=>decide (kv.1=k))=vs.any fun kv=>decide (kv.1=k):=by
 unfold KV at r
 induction r with
 |nil=>rfl
 |cons h t ih=>rw[ZuH,ZuH,ih,h.1]
theorem KV.repl {kvs:List (κ×V)}{vs:List (κ×Value)} (r:KV kvs vs) (k:κ) {y:V}{u:Value} (ry:Jt y u) :
  KV (kvs.map fun kv=>if kv.1=k then (kv.1,y) else kv) (vs.map fun kv=>if kv.1=k then (kv.1,u) else kv):=by
 unfold KV at r ⊢
 induction r with
 |nil=>exact .nil
 |@cons p q ps qs h t ih =>
  rw[ZtP,ZtP]
  refine .cons ?_ ih
  obtain⟨h1,h2⟩:=h
  by_cases e:p.1=k
  ·rw[if_pos e,if_pos (h1.symm.trans e)];exact⟨h1,ry⟩
  ·rw[if_neg e,if_neg (fun z=>e (h1.trans z))];exact⟨h1,h2⟩
theorem KV.put {kvs:List (κ×V)}{vs:List (κ×Value)} (r:KV kvs vs) (k:κ) {y:V}{u:Value} (ry:Jt y u):KV (Zez kvs k y) (stored vs k u):=by
 unfold Zez stored
 rw[r.any k]
 by_cases e:(vs.any fun kv=>decide (kv.1=k))=true
 ·rw[if_pos e,if_pos e];exact r.repl k ry
 ·rw[if_neg e,if_neg e];exact Paired.snoc r ⟨rfl,ry⟩
theorem KV.length {kvs:List (κ×V)}{vs:List (κ×Value)} (r:KV kvs vs):kvs.length=vs.length:=Paired.length r
end
theorem ZfB {P:Program}{w:World}{k:Key}{u:Value} (r:Jt (kV k) u):(Jv P w).is k u=true:=by
 cases k with
 |inl i=>obtain⟨t,e⟩:=(show ∃t,u=Value.int i t from r);subst e;exact Zcg P w i t
 |inr x=>obtain⟨t,e⟩:=(show ∃t,u=Value.str x t from r);subst e;exact Zcf P w x t
theorem Zbx {P:Program}{w:World}:∀{ks:List Key}{us:List Value},Jb (ks.map kV) us->ItemsAre (Jv P w) ks us
 |[],_,r=>by rw[ZuY] at r;cases r;exact .nil
 |k::ks,_,r=>by
  rw[ZtP] at r
  cases r with
  |cons h t=>exact .cons (ZfB h) (Zbx t)
noncomputable abbrev KT (H:Hp):List (List Key×V)->List (List Key×Addr×Value)->Prop:=Paired fun p q=>p.1=q.1/\H q.2.1=some (.tup (p.1.map kV))/\Jt p.2 q.2.2
theorem KT.val {H:Hp}{kvs:List (List Key×V)}{xs:List (List Key×Addr×Value)} (r:KT H kvs xs) (k:List Key):ZgG (Ze7 kvs k) ((atKey xs k).map (·.2)):=by
 induction r with
 |nil=>exact True.intro
 |@cons p q ps qs h t ih =>
  obtain⟨h1,_,h2⟩:=h
  by_cases e:p.1=k
  ·have e':q.1=k:=h1.symm.trans e
   have b:atKey (q::qs) k=some q.2:=by simp[atKey,ZuN,e']
   rw[UJ e,b];exact h2
  ·have e':¬q.1=k:=fun z=>e (h1.trans z)
   have b:atKey (q::qs) k=atKey qs k:=by simp[atKey,ZuN,e']
   rw[UK e,b];exact ih
theorem KT.repl {H:Hp}{kvs:List (List Key×V)}{xs:List (List Key×Addr×Value)} (r:KT H kvs xs) (k:List Key) {y:V}{u:Value} (ry:Jt y u) :
  KT H (kvs.map fun kv=>if kv.1=k then (kv.1,y) else kv) (xs.map (putAt k u)):=by
 induction r with
 |nil=>exact .nil
 |@cons p q ps qs h t ih =>
  rw[ZtP,ZtP]
  refine .cons ?_ ih
  obtain⟨h1,h2,h3⟩:=h
  unfold putAt
  by_cases e:p.1=k
  ·rw[if_pos e,if_pos (h1.symm.trans e)];exact⟨h1,h2,ry⟩
  ·rw[if_neg e,if_neg (fun z=>e (h1.trans z))];exact⟨h1,h2,h3⟩
theorem KT.put {H:Hp}{kvs:List (List Key×V)}{xs:List (List Key×Addr×Value)} (r:KT H kvs xs) (k:List Key) {b:Addr}{y:V}{u:Value} (hb:H b=some (.tup (k.map kV))) (ry:Jt y u) :
  KT H (Zez kvs k y) (storedH xs k b u):=by
 have e:(kvs.any fun kv=>decide (kv.1=k))=(atKey xs k).isSome:=by
  rw[ZcI,(r.val k).isSome_eq,Zv7]
 unfold Zez storedH
 rw[e]
 by_cases q:(atKey xs k).isSome=true
 ·rw[if_pos q,if_pos q];exact r.repl k ry
 ·rw[if_neg q,if_neg q];exact Paired.snoc r ⟨rfl,hb,ry⟩
theorem KT.keeps {H H':Hp}{kvs:List (List Key×V)}{xs:List (List Key×Addr×Value)} (r:KT H kvs xs) (ht:∀b ys,H b=some (.tup ys)->H' b=some (.tup ys)):KT H' kvs xs:=
 Paired.mapP r fun _ _ z=>⟨z.1,ht _ _ z.2.1,z.2.2⟩
section
variable {P:Program}{w:World}{H:Hp}{h:Heap}{a:Addr}
theorem ZiU {u:HO} (ok:HOk P w H h) (e:Rd H a u):JA P w H h a u:=e.ok ok
theorem ZfU {kvs:List (Key×V)} (ok:HOk P w H h) (e:Rd H a (.dK kvs)):kvs.length<=sizeLine/\(a==sysModules)=false/\∃vs,KV kvs vs/\h.DictOf (Jv P w) a vs:=
 show JA P w H h a (.dK kvs) from ZiU ok e
theorem Zmo {kvs:List (Key×V)} (ok:HOk P w H h) (e:H a=some (.dK kvs)):kvs.length<=sizeLine/\(a==sysModules)=false/\∃vs,KV kvs vs/\h.DictOf (Jv P w) a vs:=ZfU ok (.inl e)
theorem QW {ks:List Key} (ok:HOk P w H h) (e:H a=some (.tup (ks.map kV))):(tupleKind (Jv P w)).is h ks a:=by
 obtain⟨_,its,r,o,h1,h2,n,h3⟩:=(show JA P w H h a (.tup (ks.map kV)) from ok a _ e)
 exact⟨o,its.toArray,n,h1,h2,h3,by simpa using Zbx r⟩
theorem ZfP {kvs:List (List Key×V)} (ok:HOk P w H h) (e:Rd H a (.dT kvs)):kvs.length<=sizeLine/\(a==sysModules)=false /\
  ∃xs,KT H kvs xs/\h.DictOfH (tupleKind (Jv P w)) a xs:=by
 obtain⟨z,y,xs,r,o,es,ep,h1,h2,h3,h4,h5⟩:=(show JA P w H h a (.dT kvs) from ZiU ok e)
 refine⟨z,y,xs,r,o,es,ep,h1,h2,h3,h4,fun x hx=>?_,h5⟩
 have all:∀{l:List (List Key×V)}{m:List (List Key×Addr×Value)},KT H l m->∀x∈m,(tupleKind (Jv P w)).is h x.1 x.2.1:=by
  intro l m q
  induction q with
  |nil=>intro x hx;exact nomatch hx
  |@cons p q ps qs hq t ih =>
   intro x hx
   rcases ZtN.mp hx with e|hx
   ·subst e
    exact QW ok (by rw[<- hq.1];exact hq.2.1)
   ·exact ih x hx
 exact all r x hx
theorem Zlo {kvs:List (List Key×V)} (ok:HOk P w H h) (e:H a=some (.dT kvs)):kvs.length<=sizeLine/\(a==sysModules)=false /\
  ∃xs,KT H kvs xs/\h.DictOfH (tupleKind (Jv P w)) a xs:=ZfP ok (.inl e)
end
def Zi9 (H:Hp) (a:Addr) (y:V) (r:Option V):Prop:=
 (∃kvs k,Rd H a (.dK kvs)/\y=kV k/\r=Ze7 kvs k)\/∃kvs k b,Rd H a (.dT kvs)/\y=.ref b/\H b=some (.tup (k.map kV))/\r=Ze7 kvs k
def ZmR (H:Hp) (a:Addr) (y v:V) (H':Hp):Prop:=
 (∃kvs k,H a=some (.dK kvs)/\y=kV k/\kvs.length<sizeLine/\H'=upd H a (.dK (Zez kvs k v))) \/
 ∃kvs k b,H a=some (.dT kvs)/\y=.ref b/\H b=some (.tup (k.map kV))/\kvs.length<sizeLine/\H'=upd H a (.dT (Zez kvs k v))
section
variable {X:Cx}{pins:List (Addr×Obj)}{σ:St}{H:Hp}{s:Shared}{a:Addr}{y v:V}{u r:Value}{o:Option V}{A:Around}{E:Value->Shared->Prop}
theorem Inv.big (I:Inv X pins σ H s):sysModules<s.heap.objs.size:=by
 have h:mainGlobals<s.heap.objs.size:=(I.mod.glob.keeps I.bk).lt
 exact Nat.lt_trans (by decide) h
theorem Zgl {Q:Value->Shared->Prop} (hu:A.units+1<cLine) (I:Inv X pins σ H s) (g:Zi9 H a y (some v)) (ry:Jt y u) (h:∀w' s',Inv X pins σ H s'->Jt v w'->Q w' s') :
  wpAny (model X.prog X.w) A (getItem (.ref a) u) Q E s:=by
 rcases g with ⟨kvs,k,e,ey,l⟩|⟨kvs,k,b,e,ey,eb,l⟩
 ·subst ey
  obtain⟨z,hd,vs,rel,dd⟩:=ZfU I.hok e
  obtain⟨w',hw,rw'⟩:=ZgG.some_of (v:=v) (o:=valueAt vs k) (by rw[l];exact rel.val k)
  exact wpAny_getItem_of (ZfB ry) dd.mapOf hw (h w' _ (I.tok _) rw')
 ·subst ey
  cases (show u=Value.ref b from ry)
  obtain⟨z,hd,xs,rel,dd⟩:=ZfP I.hok e
  obtain⟨w',hw,rw'⟩:=ZgG.some_of (v:=v) (o:=(atKey xs k).map (·.2)) (by rw[l];exact rel.val k)
  obtain⟨p,hp,hp2⟩:=Zur.mp hw
  refine wpAny_getItem_heap (tupleKind_room_in1 hu) (QW I.hok eb) dd hp ?_
  rw[hp2]
  exact h w' _ (I.tok _) rw'
theorem Znd {Q:Value->Shared->Prop} (hu:A.units+1<cLine) (I:Inv X pins σ H s) (g:Zi9 H a y o) (ry:Jt y u) (h:∀s',Inv X pins σ H s'->Q (.bool o.isSome) s') :
  wpAny (model X.prog X.w) A (compareOp .In u (.ref a)) Q E s:=by
 rcases g with ⟨kvs,k,e,ey,l⟩|⟨kvs,k,b,e,ey,eb,l⟩
 ·subst ey
  obtain⟨z,hd,vs,rel,dd⟩:=ZfU I.hok e
  refine wpAny_in_of (ZfB ry) hd dd.mapOf ?_
  rw[<- (rel.val k).isSome_eq,<- l]
  exact h _ (I.tok _)
 ·subst ey
  cases (show u=Value.ref b from ry)
  obtain⟨z,hd,xs,rel,dd⟩:=ZfP I.hok e
  refine wpAny_in_heap (tupleKind_room_in1 hu) (QW I.hok eb) hd dd ?_
  have q:=(rel.val k).isSome_eq
  rw[Zv7] at q
  rw[<- q,<- l]
  exact h _ (I.tok _)
theorem ZjI {Q:Value->Shared->Prop} (hu:A.units+1<cLine) (I:Inv X pins σ H s) (g:Zi9 H a y o) (ry:Jt y u) (h:∀s',Inv X pins σ H s'->Q (.bool (!o.isSome)) s') :
  wpAny (model X.prog X.w) A (compareOp .NotIn u (.ref a)) Q E s:=by
 rcases g with ⟨kvs,k,e,ey,l⟩|⟨kvs,k,b,e,ey,eb,l⟩
 ·subst ey
  obtain⟨z,hd,vs,rel,dd⟩:=ZfU I.hok e
  refine wpAny_notIn_of (ZfB ry) hd dd.mapOf ?_
  rw[<- (rel.val k).isSome_eq,<- l]
  exact h _ (I.tok _)
 ·subst ey
  cases (show u=Value.ref b from ry)
  obtain⟨z,hd,xs,rel,dd⟩:=ZfP I.hok e
  refine wpAny_notIn_heap (tupleKind_room_in1 hu) (QW I.hok eb) hd dd ?_
  have q:=(rel.val k).isSome_eq
  rw[Zv7] at q
  rw[<- q,<- l]
  exact h _ (I.tok _)
theorem Zcy {h':Heap}{t':Nat}{ob:HO} (I:Inv X pins σ H s) (mu:Mut (H a)) (hs:Heap.SameBut a s.heap h') (he:∃q,h'.get? a=some q) (new:JA X.prog X.w (upd H a ob) h' a ob) :
  Inv X pins σ (upd H a ob) { s with heap:=h',toks:=t' }:=
 I.write (x:=a) (e:=a) mu (.inl rfl) (fun b q hb z=>(hs.2 b hb).trans z) he new
theorem Zlp {P:Program}{w:World}{H':Hp}{h':Heap}{kvs:List (Key×V)}{vs:List (Key×Value)} (z:kvs.length<=sizeLine) (hd:(a==sysModules)=false) (rel:KV kvs vs) (dd:h'.DictOf (Jv P w) a vs) :
  JA P w H' h' a (.dK kvs):=⟨z,hd,vs,rel,dd⟩
theorem Zgk {H':Hp}{Q:Unit->Shared->Prop} (hu:A.units+1<cLine) (I:Inv X pins σ H s) (g:ZmR H a y v H') (ry:Jt y u) (rv:Jt v r) (h:∀s',Inv X pins σ H' s'->Q () s') :
  wpAny (model X.prog X.w) A (setItem (.ref a) u r) Q E s:=by
 rcases g with ⟨kvs,k,e,ey,l,eH⟩|⟨kvs,k,b,e,ey,eb,l,eH⟩
 ·subst ey eH
  obtain⟨z,hd,vs,rel,dd⟩:=Zmo I.hok e
  have hz:vs.length<=sizeLine:=by rw[<- rel.length];exact z
  have hl:(Zez kvs k v).length<=sizeLine:=by have:=Qy kvs k v;omega
  refine wpAny_setItem_pairs (hsz:=hz) (ZfB ry) dd fun h' dd' hs=>h _ ?_
  have he:∃q,h'.get? a=some q:=let ⟨q,_,_,hq,_⟩:=dd';⟨q,hq⟩
  exact Zcy I (by rw[e];exact True.intro) hs he (Zlp hl hd (rel.put k rv) dd')
 ·subst ey eH
  cases (show u=Value.ref b from ry)
  obtain⟨z,hd,xs,rel,dd⟩:=Zlo I.hok e
  have hz:xs.length<=sizeLine:=by rw[<- Paired.length rel];exact z
  have hl:(Zez kvs k v).length<=sizeLine:=by have:=Qy kvs k v;omega
  refine wpAny_setItem_heap (hsz:=hz) (tupleKind_room_in1 hu) (QW I.hok eb) dd fun h' dd' hs=>h _ ?_
  obtain⟨q,es,ep,hq,h2,h3,h4,_,h5⟩:=dd'
  refine Zcy I (by rw[e];exact True.intro) hs ⟨q,hq⟩ ⟨hl,hd,_,(rel.put k eb rv).keeps fun c ys ec=>?_,q,es,ep,hq,h2,h3,h4,h5⟩
  rw[Z1 (Zjp ec e (fun z=>nomatch z))]
  exact ec
end
def ZmQ (i:Expr):Prop:=∀ov iv,subscripted i false ov iv=operate [ov,iv] (getItem ov iv)
theorem ZiK {prog:Program}{w:World}{A:Around}{E:Value->Shared->Prop}{s:Shared}{env:Env}{value slice:Expr}{pos:Pos}{T id:String}{Q:Value->Shared->Prop}
  (hl:typeLookup (.type T) "__getitem__"=pure (some (.builtin id))) (hs:ZmQ slice)
  (h:wpAny (model prog w) A (eval value env) (fun o s₁=>wpAny (model prog w) A (eval slice env) (fun i s₂=>s₂.TypeIs o T/\wpAny (model prog w) A (getItem o i) Q E s₂) E s₁) E s) :
  wpAny (model prog w) A (eval (.Subscript value slice pos) env) Q E s:=by
 refine Subscript_ (wpAny_mono h (fun o s₁ h₁=>wpAny_mono h₁ (fun i s₂ h₂=>?_) fun _ _ x=>x) fun _ _ x=>x)
 obtain⟨hT,h₂⟩:=h₂
 unfold subscriptTail
 refine wpAny_bind ?_
 rw[getitemInPython_of_ne hT.not_modules]
 refine wpAny_bind (wpAny_specialOf hT hl ?_)
 have fin:wpAny (model prog w) A (subscripted slice false o i) (fun r s₃=>wpAny (model prog w) A (letTemporaryGo value o r >>= fun _=>pure r) Q E s₃) E s₂:=by
  rw[hs o i]
  exact wpAny_operating (wpAny_mono h₂ (fun r s₃ h₃=>wpAny_bind (wpAny_letTemporaryGo (wpAny_pure h₃))) fun _ _ x=>x)
 first
  |exact wpAny_pure (wpAny_bind fin)
  |exact wpAny_bind (wpAny_pure (wpAny_bind fin))
  |exact wpAny_bind fin
theorem Zcu {X:Cx}{pins:List (Addr×Obj)}{σ:St}{H:Hp}{s:Shared}{a:Addr}{y:V}{o:Option V} (I:Inv X pins σ H s) (g:Zi9 H a y o):s.TypeIs (.ref a) "dict":=by
 rcases g with ⟨kvs,k,e,_,_⟩|⟨kvs,k,b,e,_,_,_⟩
 ·obtain⟨_,_,vs,_,dd⟩:=ZfU I.hok e
  exact dd.typeIs
 ·obtain⟨_,_,xs,_,dd⟩:=ZfP I.hok e
  exact dd.typeIs
noncomputable def Zkr (td ty:TE):TE:=fun σ H Q=>td σ H fun x H1=>ty σ H1 fun y H2=>∃a v,x=.ref a/\Zi9 H2 a y (some v)/\Q v H2
noncomputable def Zm6 (ty td:TE):TE:=fun σ H Q=>ty σ H fun y H1=>td σ H1 fun x H2=>∃a o,x=.ref a/\Zi9 H2 a y o/\Q (.bl o.isSome) H2
noncomputable def ZeE (ty td:TE):TE:=fun σ H Q=>ty σ H fun y H1=>td σ H1 fun x H2=>∃a o,x=.ref a/\Zi9 H2 a y o/\Q (.bl (!o.isSome)) H2
noncomputable def Zkz (td ty tv:TE):TS:=fun D σ H=>tv σ H fun v H1=>td σ H1 fun x H2=>ty σ H2 fun y H3=>∃a H4,x=.ref a/\ZmR H3 a y v H4/\D.nx σ H4
section
variable {X:Cx}{o i value:Expr}{pos pos':Pos}{td ty tv:TE}
theorem ZeW (hu:X.A.units+1<cLine) (ho:PE X o td) (hi:PE X i ty) (hs:ZmQ i):PE X (.Subscript o i pos) (Zkr td ty):=by
 intro pins s σ H Q I h
 refine ZiK PySem.F.slot_dict_getitem.lookup hs (thn (ho pins s σ H _ I h) fun u s1 ⟨x,H1,I1,rx,q1⟩=>thn (hi pins s1 σ H1 _ I1 q1) fun iv s2 ⟨y,H2,I2,ry,a,v,ex,g,q2⟩=>?_)
 subst ex
 obtain rfl:u=Value.ref a:=rx
 exact⟨Zcu I2 g,Zgl hu I2 g ry fun w' s3 I3 rw'=>⟨v,H2,I3,rw',q2⟩⟩
theorem Zk8 (hu:X.A.units+1<cLine) (hi:PE X i ty) (ho:PE X o td):PC X .In i o (Zm6 ty td):=by
 intro pins s σ H Q I h
 refine thn (hi pins s σ H _ I h) fun iv s1 ⟨y,H1,I1,ry,q1⟩=>thn (ho pins s1 σ H1 _ I1 q1) fun u s2 ⟨x,H2,I2,rx,a,ov,ex,g,q2⟩=>?_
 subst ex
 obtain rfl:u=Value.ref a:=rx
 exact Znd hu I2 g ry fun s3 I3=>⟨.bl ov.isSome,H2,I3,rfl,q2⟩
theorem Zbh (hu:X.A.units+1<cLine) (hi:PE X i ty) (ho:PE X o td):PC X .NotIn i o (ZeE ty td):=by
 intro pins s σ H Q I h
 refine thn (hi pins s σ H _ I h) fun iv s1 ⟨y,H1,I1,ry,q1⟩=>thn (ho pins s1 σ H1 _ I1 q1) fun u s2 ⟨x,H2,I2,rx,a,ov,ex,g,q2⟩=>?_
 subst ex
 obtain rfl:u=Value.ref a:=rx
 exact ZjI hu I2 g ry fun s3 I3=>⟨.bl (!ov.isSome),H2,I3,rfl,q2⟩
theorem ZeT (hu:X.A.units+1<cLine) (ho:PE X o td) (hi:PE X i ty) (hv:PE X value tv) (hs:swapsWith value (some (.Subscript o i pos')) pos.line X.env=pure false) :
  PS X (.Assign [.Subscript o i pos'] value pos) (Zkz td ty tv):=by
 intro pins s σ H D I h
 refine wpAny_Assign_Subscript (thn (hv pins s σ H _ I h) fun r s1 ⟨v,H1,I1,rv,q1⟩=>thn (ho pins s1 σ H1 _ I1 q1) fun u s2 ⟨x,H2,I2,rx,q2⟩=>thn (hi pins s2 σ H2 _ I2 q2) fun iv s3 ⟨y,H3,I3,ry,a,H4,ex,g,q3⟩=>?_) hs
 subst ex
 obtain rfl:u=Value.ref a:=rx
 exact Zgk hu I3 g ry rv fun s4 I4=>⟨σ,H4,I4,q3⟩
end
theorem Zd5 {P:Program}{w:World}{H:Hp} (h:Heap) (hb:sysModules<h.objs.size):JA P w H (h.push { cls:=.type "dict",data:=.dict #[] }) h.objs.size (.dT []):=
 ⟨Zub _,beq_eq_false_iff_ne.mpr (Ne.symm (ZtU hb)),[],.nil,_,#[],0,Heap.get?_push_size _ rfl,⟨rfl,rfl,rfl⟩,rfl,rfl,List.nodup_nil⟩
noncomputable def ZhV:TE:=fun _ H Q=>∀p,H p=none->Q (.ref p) (upd H p (.dT []))
section
variable {X:Cx}{pos:Pos}
theorem Zhd:PE X (.Dict [] [] pos) ZhV:=fun pins s σ H Q I h =>
 wpAny_Dict_empty ⟨.ref s.heap.objs.size,_,I.laid (a:=s.heap.objs.size) (o:=.dT []) (t':=s.toks) (fun _ _ q=>Heap.get?_push_of_some _ q) (ZtE _) (Zd5 s.heap I.big),rfl,h _ (I.hok.fresh (ZtE _))⟩
end
noncomputable def ZcP:List (TE×TE)->St->Hp->(List (V×V)->Hp->Prop)->Prop
 |[],_,H,Q=>Q [] H
 |(tk,tv)::r,σ,H,Q=>tk σ H fun x H1=>tv σ H1 fun y H2=>ZcP r σ H2 fun ps H3=>Q ((x,y)::ps) H3
noncomputable abbrev VV:List (V×V)->List (Value×Value)->Prop:=Paired fun p q=>Jt p.1 q.1/\Jt p.2 q.2
def PPs (X:Cx) (pos:Pos) (keys:List (Option Expr)) (values:List Expr) (trs:List (TE×TE)):Prop:=
 ∀(pins:List (Addr×Obj)) (s:Shared) (σ:St) (H:Hp) (Q:List (V×V)->Hp->Prop),Inv X pins σ H s->ZcP trs σ H Q ->
  wpAny (model X.prog X.w) X.A (evalPairs (pairTrees keys values X.env pos)) (fun vs s'=>∃ps H',Inv X pins σ H' s'/\VV ps vs/\Q ps H') X.xe s
theorem Zja {X:Cx}{pos:Pos}:PPs X pos [] [] []:=fun pins s σ H Q I h=>pairTrees_nil_walk ⟨[],H,I,.nil,h⟩
theorem Zhb {X:Cx}{pos:Pos}{k v:Expr}{ks:List (Option Expr)}{vs:List Expr}{tk tv:TE}{trs:List (TE×TE)} (hk:PE X k tk) (hv:PE X v tv) (hr:PPs X pos ks vs trs) :
  PPs X pos (some k::ks) (v::vs) ((tk,tv)::trs):=fun pins s σ H Q I h =>
 pairTrees_cons_walk (thn (hk pins s σ H _ I h) fun u s1 ⟨x,H1,I1,rx,q1⟩=>thn (hv pins s1 σ H1 _ I1 q1) fun w2 s2 ⟨y,H2,I2,ry,q2⟩ =>
  thn (hr pins s2 σ H2 _ I2 q2) fun ws s3 ⟨ps,H3,I3,rel,q3⟩=>⟨(x,y)::ps,H3,I3,.cons ⟨rx,ry⟩ rel,q3⟩)
section
end
noncomputable def Zdv:Key->PV
 |.inl i=>.int i
 |.inr x=>.str x
noncomputable def Zef:PV->Option Key
 |.int i=>some (.inl i)
 |.str x=>some (.inr x)
 |_=>none
noncomputable def Ui:List PV->Option (List Key)
 |[]=>some []
 |x::xs=>match Zef x,Ui xs with
  |some k,some ks=>some (k::ks)
  |_,_=>none
theorem Za8 {x:PV}{k:Key} (h:Zef x=some k):x=Zdv k:=by
 cases x<;>first|(cases h;rfl)|cases h
theorem Uh:∀{xs:List PV}{ks:List Key},Ui xs=some ks->xs=ks.map Zdv
 |[],ks,h=>by cases h;rfl
 |x::xs,ks,h=>by
  unfold Ui at h
  split at h
  ·rename_i k ks' h1 h2
   cases h
   rw[Za8 h1,Uh h2];rfl
  ·cases h
@[simp] theorem ZjZ (k:Key):Zef (Zdv k)=some k:=by cases k<;>rfl
@[simp] theorem VA:∀ks:List Key,Ui (ks.map Zdv)=some ks
 |[]=>rfl
 |k::ks=>by simp[Ui,VA ks]
section
variable {K:W.Frag}{H:Hp}{S:Addr->Prop}
theorem ZbY {k:Key}{v:V} (h:Rep K H S (Zdv k) v):v=kV k:=by cases k<;>exact h
theorem Ua:∀{ks:List Key}{vs:List V},Reps K H S (ks.map Zdv) vs->vs=ks.map kV
 |[],_,h=>h
 |k::ks,_,h=>by
  obtain⟨v,r,rfl,h1,h2⟩:=h
  rw[ZbY h1,Ua h2];rfl
end
section
variable {κ:Type} [DecidableEq κ] {α:Type}
noncomputable def atK:List κ->List α->κ->Option α
 |k'::ks,x::xs,k=>if k'=k then some x else atK ks xs k
 |_,_,_=>none
noncomputable def ZgS:List κ->List α->κ->α->List α
 |k'::ks,x::xs,k,y=>(if k'=k then y else x)::ZgS ks xs k y
 |_,_,_,_=>[]
noncomputable def Zmi (k:κ) (ks:List κ):Bool:=decide (k∈ks)
theorem Zf4 {k:κ}{ks:List κ} (h:Zmi k ks=false):k ∉ ks:=of_decide_eq_false h
noncomputable def QF (ks:List κ) (k:κ):List κ:=if k∈ks then ks else ks++[k]
noncomputable def Uz (ks:List κ) (xs:List α) (k:κ) (y:α):List α:=if k∈ks then ZgS ks xs k y else xs++[y]
theorem ZcV:∀{ks:List κ}{xs:List α}{k:κ}{y:α},ks.length=xs.length->(ZgS ks xs k y).length=ks.length
 |[],[],_,_,_=>rfl
 |k'::ks,x::xs,k,y,h=>by simp[ZgS,ZcV (ks:=ks) (xs:=xs) (k:=k) (y:=y) (by simpa using h)]
 |[],_::_,_,_,h=>by simp at h
 |_::_,[],_,_,h=>by simp at h
theorem ZeR {ks:List κ}{xs:List α}{k:κ}{y:α} (h:ks.length=xs.length):(QF ks k).length=(Uz ks xs k y).length:=by
 unfold QF Uz
 split
 ·rw[ZcV h]
 ·simp[h]
theorem Zak:∀{ks:List κ}{vs:List V}{k:κ},ks.length=vs.length->Ze7 (ks.zip vs) k=atK ks vs k
 |[],[],_,_=>rfl
 |k'::ks,v::vs,k,h=>by
  rw[Zva]
  unfold atK
  by_cases e:k'=k
  ·rw[UJ e,if_pos e]
  ·rw[UK e,if_neg e,Zak (by simpa using h)]
 |[],_::_,_,h=>by simp at h
 |_::_,[],_,h=>by simp at h
theorem Zc8:∀{ks:List κ}{vs:List V}{k:κ},ks.length=vs.length->(((ks.zip vs).any fun kv=>decide (kv.1=k))=true ↔ k∈ks)
 |[],[],_,_=>by simp
 |k'::ks,v::vs,k,h=>by
  rw[Zva,ZuH,Bool.or_eq_true,Zc8 (by simpa using h),ZtN,decide_eq_true_eq]
  exact⟨fun z=>z.imp Eq.symm id,fun z=>z.imp Eq.symm id⟩
 |[],_::_,_,h=>by simp at h
 |_::_,[],_,h=>by simp at h
theorem ZeJ:∀{ks:List κ}{vs:List V}{k:κ}{y:V},ks.length=vs.length->((ks.zip vs).map fun kv=>if kv.1=k then (kv.1,y) else kv)=ks.zip (ZgS ks vs k y)
 |[],[],_,_,_=>rfl
 |k'::ks,v::vs,k,y,h=>by
  rw[Zva,ZtP,ZeJ (by simpa using h)]
  show _=(k'::ks).zip ((if k'=k then y else v)::ZgS ks vs k y)
  by_cases e:k'=k
  ·rw[if_pos e,if_pos e];rfl
  ·rw[if_neg e,if_neg e];rfl
 |[],_::_,_,_,h=>by simp at h
 |_::_,[],_,_,h=>by simp at h
theorem Zda {ks:List κ}{vs:List V}{k:κ}{y:V} (h:ks.length=vs.length):Zez (ks.zip vs) k y=(QF ks k).zip (Uz ks vs k y):=by
 unfold Zez QF Uz
 by_cases c:k∈ks
 ·rw[if_pos ((Zc8 h).mpr c),if_pos c,if_pos c,ZeJ h]
 ·rw[if_neg (fun z=>c ((Zc8 h).mp z)),if_neg c,if_neg c,List.zip_append h];rfl
end
section
variable {κ:Type} [DecidableEq κ] {K:W.Frag}{H:Hp}{S:Addr->Prop}
theorem ZcX:∀{ks:List κ}{xs:List PV}{vs:List V}{k:κ},Reps K H S xs vs->match atK ks xs k with
  |some y=>∃v,atK ks vs k=some v/\Rep K H S y v
  |none=>atK ks vs k=none
 |[],xs,vs,k,h=>by simp[atK]
 |k'::ks,[],vs,k,h=>by rw[h];simp[atK]
 |k'::ks,x::xs,vs,k,h=>by
  obtain⟨v,r,rfl,h1,h2⟩:=h
  unfold atK
  by_cases e:k'=k
  ·rw[if_pos e,if_pos e];exact⟨v,rfl,h1⟩
  ·rw[if_neg e,if_neg e];exact ZcX h2
theorem QL:∀{ks:List κ}{xs:List PV}{vs:List V}{G:List Addr}{k:κ}{y:PV}{w:V},ks.length=xs.length->Trees K H xs vs G->ZZ K H y w []->∃G',(∀a∈G',a∈G)/\Trees K H (ZgS ks xs k y) (ZgS ks vs k w) G'
 |[],[],vs,G,k,y,w,_,h,_=>⟨[],by simp,by rw[h.1];exact⟨rfl,rfl⟩⟩
 |k'::ks,x::xs,vs,G,k,y,w,hl,h,hy=>by
  obtain⟨v,r,G1,G2,rfl,h1,h2,h3,rfl⟩:=h
  obtain⟨G',g1,g2⟩:=QL (ks:=ks) (k:=k) (y:=y) (w:=w) (by simpa using hl) h2 hy
  unfold ZgS
  by_cases e:k'=k
  ·rw[if_pos e,if_pos e]
   exact⟨G',fun a ha=>ZtB _ (g1 a ha),w,_,[],G',rfl,hy,g2,by simp,rfl⟩
  ·rw[if_neg e,if_neg e]
   refine⟨G1++G',fun a ha=>?_,v,_,G1,G',rfl,h1,g2,fun a ha z=>h3 a ha (g1 a z),rfl⟩
   rcases ZtD.mp ha with z|z
   ·exact ZtF _ z
   ·exact ZtB _ (g1 a z)
 |[],_::_,_,_,_,_,_,hl,_,_=>by simp at hl
 |_::_,[],_,_,_,_,_,hl,_,_=>by simp at hl
theorem ZZ.flatG {x:PV}{v:V}{G:List Addr} (f:x.flat=true) (h:ZZ K H x v G):ZZ K H x v []:=Rep.tree f (h.rep (S:=fun _=>True) fun _ _=>trivial)
end
section
variable {K:W.Frag}{B:Addr->Prop}{EX:PX->Hp->Prop}{H0 H H':Hp}{σ:St}{Γ Γ' Γ1 Γ2 Γ3:List Md}{ρ:List PV}{F F':Nat->List Addr}{R:List Addr}{ta tb:TE}{f fa fb:List PV->Rr PV}{k:Kd}
theorem Res.newBox {H1:Hp}{F1:Nat->List Addr}{s:Sh}{xs:List PV}{vs:List V}{u:HO}{p:Addr}{S:Addr->Prop} (s1:Z7 H H1) (f1:∀i,∀a∈F1 i,a∈F i) (hb:Zkf K s vs u) (p1:Reps K H1 S xs vs) (hx:PV.flats xs=true) (A1:Ag K B H0 H1 σ Γ' ρ F1 R) (hp:H1 p=none) :
  Res K B H0 H σ Γ' ρ F R .F (.box none s xs) (.ref p) (upd H1 p u):=by
 have e:Z7 H1 (upd H1 p u):=Z7.new hp
 refine⟨F1,f1,[p],⟨p,vs,u,[],rfl,ZD,⟨trivial,hb⟩,(Reps.trees hx p1).same e,by simp,rfl⟩,fun a ha=>?_,A1.newB hb.lv hp⟩
 rw[ZtQ.mp ha]
 exact⟨(A1.fresh hp).1,.inl (s1.free hp)⟩
theorem ZhJ:DE K EX Γ Γ .F ZhV (fun _=>.ok (.box none (.dt []) [])):=fun B H0 H σ ρ F R Q A d p hp =>
 d _ _ (Z7.new hp) (Res.newBox (S:=fun _=>True) (vs:=[]) (Z7.refl _) (fun _ _ h=>h) ⟨rfl,rfl⟩ rfl rfl A hp)
noncomputable def dAt (x y:PV):Option (Option PV):=match x,y with
 |.box _ (.dk ks) xs,y=>(Zef y).map fun k=>atK ks xs k
 |.box _ (.dt ks) xs,.tup ys=>(Ui ys).map fun k=>atK ks xs k
 |_,_=>none
noncomputable def ZjY (g:Bool->Bool) (y x:PV):Rr PV:=match dAt x y with
 |some o=>.ok (.bl (g o.isSome))
 |none=>.bad
noncomputable def Zhq (x y:PV):Rr PV:=match dAt x y with
 |some (some z)=>.ok z
 |_=>.bad
theorem Zcz {x y:PV}{v w:V}{o:Option PV}{S:Addr->Prop} (hx:Rep K H S x v) (hy:Rep K H (fun _=>True) y w) (e:dAt x y=some o) :
  ∃a r,v=.ref a/\Zi9 H a w r/\r.isSome=o.isSome/\∀z,o=some z->∃u,r=some u/\Rep K H S z u:=by
 have fin:∀{κ:Type} [DecidableEq κ] {ks:List κ}{xs:List PV}{vs:List V}{k:κ},Reps K H S xs vs->o=atK ks xs k->(atK ks vs k).isSome=o.isSome/\∀z,o=some z->∃u,atK ks vs k=some u/\Rep K H S z u:=fun {κ} _ {ks xs vs k} h e=>by
  have:=ZcX (ks:=ks) (k:=k) h
  rw[<- e] at this
  cases o with
  |none=>exact⟨by rw[this];rfl,fun z q=>by cases q⟩
  |some z =>
   obtain⟨u,e1,e2⟩:=this
   exact⟨by rw[e1];rfl,fun z' q=>by cases q;exact⟨u,e1,e2⟩⟩
 unfold dAt at e
 split at e
 ·rename_i p ks xs
  obtain⟨a,vs,u,rfl,hr,⟨_,hl,rfl⟩,hxs⟩:=hx
  cases ek:Zef y with
  |none=>rw[ek] at e;cases e
  |some k =>
   rw[ek] at e
   cases e
   rw[Za8 ek] at hy
   obtain⟨g1,g2⟩:=fin (ks:=ks) (k:=k) hxs rfl
   exact⟨a,atK ks vs k,rfl,.inl ⟨_,k,hr.1,ZbY hy,(Zak hl).symm⟩,g1,g2⟩
 ·rename_i p ks xs ys
  obtain⟨a,vs,u,rfl,hr,⟨_,hl,rfl⟩,hxs⟩:=hx
  cases ek:Ui ys with
  |none=>rw[ek] at e;cases e
  |some k =>
   rw[ek] at e
   cases e
   rw[Uh ek] at hy
   obtain⟨b,ws,rfl,hb,hws⟩:=hy
   rw[Ua hws] at hb
   obtain⟨g1,g2⟩:=fin (ks:=ks) (k:=k) hxs rfl
   exact⟨a,atK ks vs k,rfl,.inr ⟨_,k,b,hr.1,rfl,hb.1,(Zak hl).symm⟩,g1,g2⟩
 ·cases e
theorem Zlw (ha:DE K EX Γ Γ1 .A ta fa) (hb:DE K EX Γ1 Γ2 .A tb fb):DE K EX Γ Γ2 .P (Zm6 ta tb) (fun ρ=>(fa ρ).bind fun y=>(fb ρ).bind fun x=>ZjY id y x):=fun B H0 H σ ρ F R Q A d=>by
 refine two ha hb A d.bind2 fun y x w v H' F' d s f py px A'=>?_
 unfold ZjY at d
 cases e:dAt x y with
 |none=>rw[e] at d;exact d.elim
 |some o =>
  rw[e] at d
  obtain⟨a,r,rfl,g1,g2,_⟩:=Zcz px py e
  exact⟨a,r,rfl,g1,by rw[g2];exact d _ _ s ⟨F',f,rfl,rfl,A'⟩⟩
theorem ZbB (ha:DE K EX Γ Γ1 .A ta fa) (hb:DE K EX Γ1 Γ2 .A tb fb):DE K EX Γ Γ2 .P (ZeE ta tb) (fun ρ=>(fa ρ).bind fun y=>(fb ρ).bind fun x=>ZjY (!·) y x):=fun B H0 H σ ρ F R Q A d=>by
 refine two ha hb A d.bind2 fun y x w v H' F' d s f py px A'=>?_
 unfold ZjY at d
 cases e:dAt x y with
 |none=>rw[e] at d;exact d.elim
 |some o =>
  rw[e] at d
  obtain⟨a,r,rfl,g1,g2,_⟩:=Zcz px py e
  exact⟨a,r,rfl,g1,by rw[g2];exact d _ _ s ⟨F',f,rfl,rfl,A'⟩⟩
theorem Zgf (ha:DE K EX Γ Γ1 .A ta fa) (hb:DE K EX Γ1 Γ2 .A tb fb):DE K EX Γ Γ2 .A (Zkr ta tb) (fun ρ=>(fa ρ).bind fun x=>(fb ρ).bind fun y=>Zhq x y):=fun B H0 H σ ρ F R Q A d=>by
 refine two ha hb A d.bind2 fun x y v w H' F' d s f px py A'=>?_
 unfold Zhq at d
 cases e:dAt x y with
 |none=>rw[e] at d;exact d.elim
 |some o =>
  rw[e] at d
  cases o with
  |none=>exact d.elim
  |some z =>
   obtain⟨a,r,rfl,g1,_,g3⟩:=Zcz px py e
   obtain⟨u,rfl,hu⟩:=g3 z rfl
   exact⟨a,u,rfl,g1,d _ _ s ⟨F',f,hu,A'⟩⟩
noncomputable def Zhp (x y z:PV):Rr PV:=match x,y with
 |.box p (.dk ks) xs,y=>match Zef y with
  |some k=>if xs.length<1000000/\(Zmi k ks=false\/z.flat=true) then .ok (.box p (.dk (QF ks k)) (Uz ks xs k z)) else .bad
  |none=>.bad
 |.box p (.dt ks) xs,.tup ys=>match Ui ys with
  |some k=>if xs.length<1000000/\(Zmi k ks=false\/z.flat=true) then .ok (.box p (.dt (QF ks k)) (Uz ks xs k z)) else .bad
  |none=>.bad
 |_,_=>.bad
theorem ZaV {κ:Type} [DecidableEq κ] {ks:List κ}{xs:List PV}{vs:List V}{k:κ}{y:PV}{w:V}{G G2:List Addr} (hl:ks.length=xs.length) (h:Trees K H xs vs G) (hy:ZZ K H y w G2) (hd:∀a∈G,a ∉ G2) (hk:k∈ks->y.flat=true) :
  ∃G',(∀a∈G',a∈G\/a∈G2)/\Trees K H (Uz ks xs k y) (Uz ks vs k w) G':=by
 unfold Uz
 by_cases c:k∈ks
 ·rw[if_pos c,if_pos c]
  obtain⟨G',g1,g2⟩:=QL (k:=k) hl h (hy.flatG (hk c))
  exact⟨G',fun a ha=>.inl (g1 a ha),g2⟩
 ·rw[if_neg c,if_neg c]
  exact⟨G++G2,fun a ha=>ZtD.mp ha,Trees.append h (Trees.one hy) hd⟩
theorem Zd7 {i:Nat}{tv:TE}{fv:List PV->Rr PV} (hm:Γ1[i]?=some .O) (hv:DE K EX Γ Γ1 .F tv fv) (hk:DE K EX Γ1 Γ1 .A tb fb) :
  DS K EX Γ ⟨Γ1,Γ2,Γ3,k⟩ (Zkz (ZaW i) tb tv) (fun ρ=>(fv ρ).thenS fun z=>(fb ρ).thenS fun y=>(Zhp (gv i ρ) y z).thenS fun x=>.next (ρ.set i x)):=fun B H0 H σ ρ F D A d=>by
 refine hv B H0 H σ ρ F [] _ A (d.thenS.imp (fun z _ d w H1 s1 r1=>?_) fun e q=>q)
 obtain⟨F1,f1,G2,t1,o1,A1⟩:=r1
 obtain⟨v,h1,h2⟩:=A1.getO hm
 refine⟨v,h1,hk B H0 H1 σ ρ F1 (G2++[]) _ A1 (d.thenS.imp (fun y _ d yv H2 s2 r2=>?_) fun e q=>q)⟩
 obtain⟨F2,f2,p2,A2⟩:=r2
 obtain⟨v',h1',h2'⟩:=A2.getO hm
 rw[h1] at h1';cases h1'
 have d:=d.thenS
 have t2:=t1.same s2
 have core:∀{p:Option Addr}{s s':Sh}{xs xs':List PV}{a:Addr}{vs vs':List V}{u u':HO}{G G':List Addr},ρ.getD i .non=.box p s xs->H2 a=some u->ZlK p a->Trees K H2 xs vs G->a ∉ G->F2 i=a::G->Zkf K s' vs' u'->Trees K H2 xs' vs' G'->(∀b∈G',b∈G\/b∈G2) ->
   σ[i]?=some (some (.ref a))->DnS K B EX ⟨Γ1,Γ2,Γ3,k⟩ H0 H F D (.next (ρ.set i (.box p s' xs')))->D.nx σ (upd H2 a u'):=fun {p s s' xs xs' a vs vs' u u' G G'} er hH hpn ht hn hF hb ht' hsub hσ d=>by
  have haF:a∈F2 i:=by rw[hF];simp
  have na2:a ∉ G2:=fun z=>A2.disjR i a haF (ZtF _ z)
  have hna:a ∉ G':=fun z=>(hsub a z).elim hn na2
  have hsub2:∀b∈a::G',b∈F2 i\/b∈G2:=fun b hb=>by
   rcases ZtN.mp hb with rfl|hb
   ·exact .inl haF
   ·rcases hsub b hb with z|z
    ·exact .inl (by rw[hF];simp[z])
    ·exact .inr z
  obtain⟨lv,hlv⟩:=A2.live i a haF
  refine d σ _ (Vo F2 i (a::G')) (V3 (s1.trans s2) (fun j b hb=>f1 j b (f2 j b hb)) haF fun b hb=>?_) (Ag.chgB hb.lv (G:=G2) (R:=[]) A2 hm haF hsub2 (by simp) ?_)
  ·rcases hsub2 b hb with z|z
   ·exact .inr ⟨i,f1 i b (f2 i b z)⟩
   ·exact(o1 b z).2
  ·exact⟨_,hσ,a,vs',u',G',rfl,ZD,⟨hpn,hb⟩,Trees.putL hlv hna ht',hna,rfl⟩
 unfold Zhp at d
 split at d
 ·rename_i p ks xs er _ _
  rw[show ρ.getD i .non=.box p (.dk ks) xs from er] at h2'
  obtain⟨a,vs,u,G,rfl,hH,⟨hpn,hl,rfl⟩,ht,hn,hF⟩:=h2'
  split at d
  ·rename_i kk ek
   split at d
   ·rename_i hc
    rw[Za8 ek] at p2
    have hl':ks.length=xs.length:=by rw[hl,ht.length]
    have dj:∀b∈G,b ∉ G2:=fun b hb z=>A2.disjR i b (by rw[hF];simp[hb]) (ZtF _ z)
    obtain⟨G',g1,g2⟩:=ZaV (k:=kk) hl' ht t2 dj (fun c=>hc.2.resolve_left (fun z=>Zf4 z c))
    refine⟨a,_,rfl,.inl ⟨_,kk,hH,ZbY p2, ?_,rfl⟩,core er hH hpn ht hn hF (s':=.dk (QF ks kk)) (vs':=Uz ks vs kk w) ⟨ZeR hl, ?_⟩ g2 g1 h1 d⟩
    ·rw[Zvx,hl,Nat.min_self,ht.length];exact ZtM hc.1 (by decide)
    ·rw[Zda hl]
   ·exact d.elim
  ·exact d.elim
 ·rename_i p ks xs ys er _ _
  rw[show ρ.getD i .non=.box p (.dt ks) xs from er] at h2'
  obtain⟨a,vs,u,G,rfl,hH,⟨hpn,hl,rfl⟩,ht,hn,hF⟩:=h2'
  split at d
  ·rename_i kk ek
   split at d
   ·rename_i hc
    rw[Uh ek] at p2
    obtain⟨b,ws,rfl,hb,hws⟩:=p2
    rw[Ua hws] at hb
    have hl':ks.length=xs.length:=by rw[hl,ht.length]
    have dj:∀b∈G,b ∉ G2:=fun b hb z=>A2.disjR i b (by rw[hF];simp[hb]) (ZtF _ z)
    obtain⟨G',g1,g2⟩:=ZaV (k:=kk) hl' ht t2 dj (fun c=>hc.2.resolve_left (fun z=>Zf4 z c))
    refine⟨a,_,rfl,.inr ⟨_,kk,b,hH,rfl,hb.1, ?_,rfl⟩,core er hH hpn ht hn hF (s':=.dt (QF ks kk)) (vs':=Uz ks vs kk w) ⟨ZeR hl, ?_⟩ g2 g1 h1 d⟩
    ·rw[Zvx,hl,Nat.min_self,ht.length];exact ZtM hc.1 (by decide)
    ·rw[Zda hl]
   ·exact d.elim
  ·exact d.elim
 ·exact d.elim
end
noncomputable def ZeD (tk tv:TE):TE:=fun σ H Q=>∀p,H p=none->tk σ (upd H p (.dT [])) fun x H1=>tv σ H1 fun y H2=>∃b k,x=.ref b/\H2 b=some (.tup (k.map kV))/\H2 p=some (.dT [])/\Q (.ref p) (upd H2 p (.dT [(k,y)]))
theorem ZeV {X:Cx}{pos:Pos}{e v:Expr}{tk tv:TE} (hu:X.A.units+1<cLine) (hk:PE X e tk) (hv:PE X v tv):PE X (.Dict [some e] [v] pos) (ZeD tk tv):=by
 intro pins s σ H Q I q
 have hn:=I.hok.fresh (ZtE s.heap.objs.size)
 have I1:=I.laid (a:=s.heap.objs.size) (o:=.dT []) (h':=s.heap.push { cls:=.type "dict",data:=.dict #[] }) (t':=s.toks) (fun _ _ q=>Heap.get?_push_of_some _ q) (ZtE _) (Zd5 s.heap I.big)
 have hp:=Zhb (pos:=pos) hk hv Zja
 refine wpAny_Dict_any rfl rfl (by simp) (by simp) (thn (hp pins _ σ _ (fun ps H2=>∃x y,ps=[(x,y)]/\∃b k,x=.ref b/\H2 b=some (.tup (k.map kV))/\H2 s.heap.objs.size=some (.dT [])/\Q (.ref s.heap.objs.size) (upd H2 s.heap.objs.size (.dT [(k,y)]))) I1 ?_) fun ws s2 ⟨ps,H2,I2,rel,x,y,ep,b,kk,ex,eb,e,q2⟩=>?_)
 ·have:=q _ hn
  show ZcP [(tk,tv)] σ _ _
  unfold ZcP
  refine cast (congrArg (fun f=>tk σ (upd H s.heap.objs.size (.dT [])) f) (funext fun x=>funext fun H1=>congrArg (fun f=>tv σ H1 f) (funext fun y=>funext fun H2=>propext ⟨fun z=>⟨x,y,rfl,z⟩,fun⟨x',y',e',z⟩=>by cases e';exact z⟩))) this
 subst ep ex
 rcases ws with _|⟨⟨uk,uv⟩,ws⟩
 ·cases rel
 cases rel with
 |cons r1 r2 =>
  cases r2
  obtain⟨rk,rv⟩:=r1
  have ek:uk=Value.ref b:=rk
  subst ek
  obtain⟨z,hd,xs,rl,dd⟩:=Zlo I2.hok e
  cases rl
  show wpAny _ _ (forIn [(Value.ref b,uv)] PUnit.unit _) _ _ s2
  rw[List.forIn_cons]
  refine wpAny_bind (wpAny_bind (wpAny_dictSet_heap (hsz:=Zub _) (show X.A.units<cLine by omega) (QW I2.hok eb) dd fun h' dd' hs=>wpAny_pure ?_))
  dsimp only
  rw[List.forIn_nil]
  refine wpAny_pure ⟨.ref s.heap.objs.size,_, ?_,rfl,q2⟩
  obtain⟨qo,es,ep,hq,h2,h3,h4,_,h5⟩:=dd'
  refine Zcy I2 (by rw[e];exact True.intro) hs ⟨qo,hq⟩ ⟨?_,hd,_, ?_,qo,es,ep,hq,h2,h3,h4,h5⟩
  ·show 1<=sizeLine
   decide
  ·refine .cons ⟨rfl, ?_,rv⟩ .nil
   show upd H2 s.heap.objs.size _ b=_
   rw[Z1 (Zjp eb e (fun z=>nomatch z))]
   exact eb
section
variable {K:W.Frag}{B:Addr->Prop}{EX:PX->Hp->Prop}{H0 H:Hp}{σ:St}{Γ Γ1 Γ2:List Md}{ρ:List PV}{F:Nat->List Addr}{R:List Addr}{ta tb:TE}{fa fb:List PV->Rr PV}{k:Kd}
noncomputable def Zdi (y z:PV):Rr PV:=match y with
 |.tup ys=>match Ui ys with
  |some k=>.ok (.box none (.dt [k]) [z])
  |none=>.bad
 |_=>.bad
theorem Zge (ha:DE K EX Γ Γ1 .A ta fa) (hb:DE K EX Γ1 Γ2 .P tb fb):DE K EX Γ Γ2 .F (ZeD ta tb) (fun ρ=>(fa ρ).bind fun y=>(fb ρ).bind fun z=>Zdi y z):=fun B H0 H σ ρ F R Q A d p hp=>by
 have A0:=A.newB (u:=.dT []) trivial hp
 have s0:Z7 H (upd H p (.dT [])):=Z7.new hp
 refine ha B H0 _ σ ρ F (p::R) _ A0 (d.bind.imp (fun y _ d w H1 s1 r1=>?_) fun e q=>q)
 obtain⟨F1,f1,p1,A1⟩:=r1
 refine hb B H0 H1 σ ρ F1 (p::R) _ A1 (d.bind.imp (fun z _ d v H2 s2 r2=>?_) fun e q=>q)
 obtain⟨F2,f2,z1,z2,A2⟩:=r2
 have p1':=p1.same s2
 unfold Zdi at d
 split at d
 ·rename_i ys
  split at d
  ·rename_i kk ek
   rw[Uh ek] at p1'
   obtain⟨b,ws,rfl,hb,hws⟩:=p1'
   rw[Ua hws] at hb
   have hH:H2 p=some (.dT []):=s2 _ _ (s1 _ _ ZD)
   refine⟨b,kk,rfl,hb.1,hH, ?_⟩
   have hpR:p ∉ R:=fun q=>by obtain⟨u,e⟩:=A.liveR p q;rw[hp] at e;cases e
   have hpF:∀i,p ∉ F i:=fun i q=>by obtain⟨u,e⟩:=A.live i p q;rw[hp] at e;cases e
   have AR:Ag K B H0 (upd H2 p (.dT [(kk,v)])) σ Γ2 ρ F2 (p::R):=by
    refine⟨fun c o e=>?_,A2.own,A2.young,A2.youngR,fun i c hc=>?_,fun c hc=>?_,A2.disj,A2.disjR,A2.lenS,A2.lenR,fun i=>?_⟩
    ·rw[Z1 (fun z=>by rw[z] at e;have:=A2.youngR p (by simp);rw[e] at this;cases this)];exact A2.same c o e
    ·rw[Z1 (fun z=>by rw[z] at hc;exact A2.disjR i p hc (by simp))];exact A2.live i c hc
    ·by_cases q:c=p
     ·exact⟨⟨.dT [(kk,v)],trivial⟩,by rw[q,ZD]⟩
     ·rw[Z1 q];exact A2.liveR c hc
    ·refine(A2.slot i).mono (fun c us s r=>⟨?_,s⟩) (fun c us r=>Im.putL (us:=⟨.dT [],trivial⟩) hH r) fun c hc us q=>?_
     ·have hne:c≠p:=fun z=>s.2.1 (by rw[z];simp)
      rcases r with r|⟨o',r⟩
      ·exact .inl (by rw[Z1 hne];exact r)
      ·exact .inr ⟨o',by rw[Z1 hne];exact r⟩
     ·have hne:c≠p:=fun z=>A2.disjR i c hc (by rw[z];simp)
      rw[Z1 hne];exact q
   have sm:Z7 H (upd H2 p (.dT [(kk,v)])):=fun c o e=>by
    rw[Z1 (ZR e hp)];exact s2 _ _ (s1 _ _ (s0 _ _ e))
   refine d _ _ sm ⟨F2,fun i a h=>f1 i a (f2 i a h),[p],⟨p,[v],_,[],rfl,ZD,⟨trivial,rfl,rfl⟩, ?_,by simp,rfl⟩,fun a ha=>?_,AR⟩
   ·exact⟨v,[],[],[],rfl,ZZ.mono (fun a ha=>by cases ha) (fun c us r=>Im.putL (us:=⟨.dT [],trivial⟩) hH r) (z2.tree z1),⟨rfl,rfl⟩,by simp,rfl⟩
   ·rw[ZtQ.mp ha];exact⟨hpR,.inl hp⟩
  ·exact d.elim
 ·exact d.elim
end
section
variable {X:Cx}{K:W.Frag}
def Zia (K:W.Frag):List V->Hp->VK->Prop:=fun xs H Q=>∃p ys,xs=[.ref p]/\((SqL K H p ys/\∀l,H l=none->Q (.ref l) (upd H l (.tup ys)))\/(SqT K H p ys/\Q (.ref p) H))
theorem Jr (e:X.K=K:=by rfl):JX X (.type "tuple") (Zia K):=by subst e;exact ZaJ
theorem JL:bootBuiltins "tuple"=some (.type "tuple"):=by decide +kernel
noncomputable def Zm1 (K:W.Frag) (ta:TE):TT:=fun σ H Q=>ta σ H fun x H'=>∃k,Zmw K x H' k/\Q k H'
theorem ZiY {a:Expr}{ta:TE} (ha:PE X a ta) (e:X.K=K:=by rfl) (he:∀whole,isTrue a X.env whole=(do let v <- whole;standAt a.pos;holding [v] (truthy v)):=by exact fun _=>rfl):PT X a (Zm1 K ta):=by subst e;exact ZgZ ha he
variable {B:Addr->Prop}{EX:PX->Hp->Prop}{H0 H:Hp}{σ:St}{Γ Γ':List Md}{ρ:List PV}{F:Nat->List Addr}{R:List Addr}{te:TE}{ta:TA}{f:List PV->Rr PV}{fa:List PV->Rr (List PV)}
noncomputable def Qn (xs:List PV):Rr PV:=match xs with
 |[.lst ys]=>.ok (.tup ys)
 |[.tup ys]=>.ok (.tup ys)
 |_=>.bad
theorem Vm (ha:DAA K EX Γ Γ' ta fa):DE K EX Γ Γ' .A (tCB (Zia K) ta) (fun ρ=>(fa ρ).bind Qn):=fun B H0 H σ ρ F R Q A d=>by
 refine ha B H0 H σ ρ F R _ A (d.bind.imp (fun xs _ d vs H1 F1 s1 f1 p1 A1=>?_) fun e q=>q)
 unfold Qn at d
 split at d
 ·obtain⟨v,rfl,a,ws,rfl,hn,hr⟩:=VF p1
  refine⟨a,ws,rfl,.inl ⟨Vr (S:=fun _=>True) hn,fun l hl=>?_⟩⟩
  have e:=Z7.new (H:=H1) (o:=.tup ws) hl
  exact d _ _ (s1.trans e) ⟨F1,f1,⟨l,ws,rfl,⟨ZD,trivial⟩,hr.same e⟩,A1.grow e⟩
 ·obtain⟨v,rfl,a,ws,rfl,hn,hr⟩:=VF p1
  exact⟨a,ws,rfl,.inr ⟨hn.sqT,d _ _ s1 ⟨F1,f1,⟨a,ws,rfl,hn,hr⟩,A1⟩⟩⟩
 ·exact d.elim
noncomputable def ZmY (x:PV):Rr Bool:=match x with
 |.lst xs=>.ok (!xs.isEmpty)
 |.bl b=>.ok b
 |_=>.bad
theorem Zln (ha:DE K EX Γ Γ' .A te f):DT K EX Γ Γ' (Zm1 K te) (fun ρ=>(f ρ).bind ZmY):=fun B H0 H σ ρ F R Q A d=>by
 refine ha B H0 H σ ρ F R _ A (d.bind.imp (fun x _ d v H1 s1 r1=>?_) fun e q=>q)
 obtain⟨F1,f1,p1,A1⟩:=r1
 cases x with
 |lst xs =>
  obtain⟨a,vs,rfl,hn,hr⟩:=p1
  refine⟨!xs.isEmpty,.inl ⟨vs,Vr (S:=fun _=>True) hn, ?_⟩,d _ F1 s1 f1 A1⟩
  cases xs with
  |nil=>rw[show vs=[] from hr];rfl
  |cons x xs=>obtain⟨v,r,rfl,_⟩:=hr;rfl
 |bl b=>cases p1;exact⟨b,rfl,d _ F1 s1 f1 A1⟩
 |_=>exact d.elim
end
noncomputable def ins {α:Type}:Nat->α->List α->List α
 |0,v,us=>v::us
 |_+1,v,[]=>[v]
 |j+1,v,u::us=>u::ins j v us
theorem V1 {α:Type}:∀{j:Nat}{v:α}{us:List α},(ins j v us).length=us.length+1
 |0,_,_=>rfl
 |_+1,_,[]=>rfl
 |j+1,v,u::us=>by simp[ins,V1 (j:=j) (v:=v) (us:=us)]
theorem Uk {α:Type}:∀{j:Nat}{v:α}{us:List α} (i:Nat),j<=us.length->(ins j v us)[i]?=if i<j then us[i]? else if i=j then some v else us[i-1]?
 |0,v,us,0,_=>rfl
 |0,v,us,i+1,_=>by simp[ins]
 |j+1,v,[],_,h=>by simp at h
 |j+1,v,u::us,0,_=>rfl
 |j+1,v,u::us,i+1,h=>by
  have:=Uk (j:=j) (v:=v) (us:=us) i (by simpa using h)
  rw[ins,Zvb,this]
  by_cases c:i<j
  ·rw[if_pos c,if_pos (show i+1<j+1 by omega)];rfl
  ·by_cases e:i=j
   ·rw[if_neg c,if_pos e,if_neg (show ¬i+1<j+1 by omega),if_pos (show i+1=j+1 by omega)]
   ·rw[if_neg c,if_neg e,if_neg (show ¬i+1<j+1 by omega),if_neg (show ¬i+1=j+1 by omega)]
    obtain⟨m,rfl⟩:∃m,i=m+1:=⟨i-1,by omega⟩
    rfl
theorem Zbz {α β:Type}{f:α->β}:∀{j:Nat}{v:α}{us:List α},(ins j v us).map f=ins j (f v) (us.map f)
 |0,_,_=>rfl
 |_+1,_,[]=>rfl
 |j+1,v,u::us=>by simp[ins,Zbz (j:=j) (v:=v) (us:=us)]
theorem Zb0 {α:Type}{r:List α}:∀{j:Nat}{v:α}{us:List α},j<=us.length->ins j v us++r=ins j v (us++r)
 |0,_,_,_=>rfl
 |_+1,_,[],h=>by simp at h
 |j+1,v,u::us,h=>by
  show u::(ins j v us++r)=u::ins j v (us++r)
  rw[Zb0 (by simpa using h)]
section
variable {K:W.Frag}{H:Hp}
theorem ZZ.pin {p:Option Addr}{s:Sh}{ys:List PV}{a:Addr}{G:List Addr} (h:ZZ K H (.box p s ys) (.ref a) G):ZZ K H (.box (some a) s ys) (.ref a) G:=by
 obtain⟨a',vs,u,G',e,h1,h2,h3⟩:=h
 cases e
 exact⟨a,vs,u,G',rfl,h1,⟨rfl,h2.2⟩,h3⟩
theorem ZZ.unpin {p:Option Addr}{s:Sh}{ys:List PV}{v:V}{G:List Addr} (h:ZZ K H (.box p s ys) v G):ZZ K H (.box none s ys) v G:=by
 obtain⟨a',vs,u,G',e,h1,h2,h3⟩:=h
 exact⟨a',vs,u,G',e,h1,⟨trivial,h2.2⟩,h3⟩
theorem ZZ.repin {p:Option Addr}{s:Sh}{ys:List PV}{a:Addr}{G:List Addr} (hp:ZlK p a) (h:ZZ K H (.box none s ys) (.ref a) G):ZZ K H (.box p s ys) (.ref a) G:=by
 obtain⟨a',vs,u,G',e,h1,h2,h3⟩:=h
 cases e
 exact⟨a,vs,u,G',rfl,h1,⟨hp,h2.2⟩,h3⟩
theorem ZZ.pinned {b:Addr}{s:Sh}{ys:List PV}{v:V}{G:List Addr} (h:ZZ K H (.box (some b) s ys) v G):v=.ref b:=by
 obtain⟨a',vs,u,G',e,h1,h2,h3⟩:=h
 rw[e,show a'=b from h2.1]
end
noncomputable def spM (K:W.Frag) (n j:Nat) (m:PV->List PV->Rr PV):Sp:=fun vs H Q E=>∃(B:Addr->Prop) (xs:List PV) (us:List V) (a:Addr) (s:Sh) (ys:List PV) (G:List Addr),
 vs=ins j (.ref a) us/\xs.length=n/\Reps K H B xs us/\ZZ K H (.box none s ys) (.ref a) G/\(∀b,B b->b ∉ G) /\
 Dn (m (.box none s ys) xs) (fun r=>∃y s' ys',r=.tup [y,.box none s' ys']/\∀u H' G1 G2,Z7 (minus H G) H'->ZZ K H' y u G1->ZZ K H' (.box none s' ys') (.ref a) G2->(∀b∈G1,b ∉ G2)->(∀b∈G1,minus H G b=none)->(∀b∈G2,minus H G b=none)->Q u H') (fun _=>False)
noncomputable def ZlX (a:Addr) (b:PV):PV:=match b with
 |.box _ s ys=>.box (some a) s ys
 |x=>x
noncomputable def ZlW (a:Addr) (r:Rr PV):Rr PV:=match r with
 |.ok (.tup [y,.box _ s ys])=>.ok (.tup [y,.box (some a) s ys])
 |.ok _=>.bad
 |.exc e=>.exc e
 |.bad=>.bad
noncomputable def RS.outN (j:Nat) (r:RS):Rr PV:=match r with
 |.next ρ=>.ok (.tup [.non,gv j ρ])
 |.ret x=>.ok x
 |.exc e=>.exc e
 |_=>.bad
section
variable {K:W.Frag}{B:Addr->Prop}{EX:PX->Hp->Prop}{H0 H:Hp}{σ:St}{Γ Γ' Γ1 Γ2 Γ3:List Md}{ρ:List PV}{F:Nat->List Addr}
theorem Ag.initM {s:Sh}{ys:List PV}{a:Addr}{G:List Addr}{xs:List PV}{us:List V}{j l:Nat} (ht:ZZ K H (.box none s ys) (.ref a) G) (h:Reps K H B xs us) (hB:∀b,B b->b ∉ G) (hj:j<=xs.length) :
  Ag K (fun b=>B b\/minus H G b=none) (minus H G) H (ins j (some (.ref a)) (us.map some++List.replicate l none)) (ins j .O (List.replicate xs.length .S++List.replicate l .U)) (ins j (.box (some a) s ys) (xs++List.replicate l .non)) (Vo (fun _=>[]) j G) []:=by
 have fin:∀i,∀b∈Vo (fun _=>[]) j G i,i=j/\b∈G:=fun i b hb=>by
  unfold Vo at hb
  split at hb
  ·exact⟨by assumption,hb⟩
  ·simp at hb
 have A:=Ag.init (n:=l) h
 refine⟨Zea,fun b h=>.inr h,fun i b hb=>Zdr (fin i b hb).2,by simp,fun i b hb=>ht.alive b (fin i b hb).2,by simp,fun i k hik b hb z=>hik ((fin i b hb).1.trans (fin k b z).1.symm),by simp,by simp[V1,h.length],by simp[V1],fun i=>?_⟩
 have hjs:j<=(us.map some++List.replicate l (none:Option V)).length:=by simp[h.length];omega
 have hjg:j<=(List.replicate xs.length Md.S++List.replicate l Md.U).length:=by simp;omega
 have hjr:j<=(xs++List.replicate l PV.non).length:=by simp;omega
 rw[Zt8,Zt8,Uk i hjs,Uk i hjg,Uk i hjr]
 have go:∀q,q≠j\/True->VM K H (NO (fun b=>B b\/minus H G b=none) (Vo (fun _=>[]) j G) []) ((List.replicate xs.length Md.S++List.replicate l Md.U)[q]?.getD .U) ((xs++List.replicate l PV.non)[q]?.getD .non) (us.map some++List.replicate l none)[q]? []:=fun q _=>by
  have sl:=A.slot q
  rw[Zt8,Zt8] at sl
  refine sl.mono (fun b u s r=>⟨r, ?_,by simp,fun k z=>?_⟩) (fun b u r=>r) (fun b hb=>by cases hb)
  ·rcases s.1 with s|s
   ·exact .inl s
   ·exact .inr (by
     by_cases q:b∈G
     ·exact Zdr q
     ·rw[ZT q];exact s)
  ·have z:=(fin k b z).2
   rcases s.1 with s|s
   ·exact hB b s z
   ·obtain⟨vs,q⟩:=ht.alive b z
    rw[s] at q;cases q
 by_cases c:i<j
 ·rw[if_pos c,if_pos c,if_pos c,Z4 (by omega)]
  exact go i (.inr trivial)
 ·rw[if_neg c,if_neg c,if_neg c]
  by_cases e:i=j
  ·rw[if_pos e,if_pos e,if_pos e]
   subst e
   rw[Zs]
   exact⟨_,rfl,ht.pin⟩
  ·rw[if_neg e,if_neg e,if_neg e,Z4 e]
   exact go (i-1) (.inr trivial)
noncomputable def ZlT (y x:PV):RS:=match x with
 |.box (some a) s xs=>.ret (.tup [y,.box (some a) s xs])
 |_=>.bad
theorem Zj9 {j:Nat}{te:TE}{f:List PV->Rr PV} (he:DE K EX Γ Γ' .F te f) (hm:Γ'[j]?=some .O):DS K EX Γ ⟨Γ3,Γ1,Γ2,.N⟩ (ZlC te) (fun ρ=>(f ρ).thenS fun y=>ZlT y (gv j ρ)):=fun B H0 H σ ρ F D A d=>by
 refine he B H0 H σ ρ F [] _ A (d.thenS.imp (fun y _ d v H1 s1 r1=>?_) fun e q=>q)
 obtain⟨F1,f1,G,h1,h2,A1⟩:=r1
 unfold ZlT at d
 split at d
 ·rename_i a s xs ex
  obtain⟨w,w1,w2⟩:=A1.getO hm
  rw[show ρ.getD j .non=.box (some a) s xs from ex] at w2
  have:=w2.pinned
  subst this
  exact d v H1 A1.same ⟨y,a,s,xs,G,F1 j,rfl,h1,w2,fun b hb z=>A1.disjR j b z (ZtF _ hb),fun b hb=>A1.youngR b (ZtF _ hb),fun b hb=>A1.young j b hb⟩
 ·exact d.elim
end
section
variable {P:Program}{w:World}{K:W.Frag}{mg:Str->Option Value}{base:Heap}
theorem Fun.okM {x qual:Str}{st:Stmt}{f:Addr}{fd:FuncData}{N ps:List Str}{k n l j:Nat}{m:PV->List PV->Rr PV} (F:Fun K x qual st f fd) (S:Zz N ps (Zh st)) (hn:ps.length=n+1) (hl:N.length-(n+1)=l) (hj:j<=n)
  (hbody:∀(cdv:Value) (A:Around) (outer:List Env) (s:Shared) (H:Hp) (E:XK),UH k (A.deeper (envOfC qual (Zh st) s.heap.objs.size f cdv)) ->
   ∃t g Y,Y.r=.N/\Y.n[j]?=some .O/\PSs (ZbC CX0 P w K mg base N qual (Zh st) f cdv A outer s H E).nox (Zu st) t/\DS K X0 (ins j .O (List.replicate n .S++List.replicate l .U)) Y t g /\
    ∀a b xs,Ref (ZlW a (m b xs)) ((g (ins j (ZlX a b) (xs++List.replicate l .non))).outN j)) :
  JB P w K mg base CX0 (k+1) f fd ps (spM K n j m):=by
 refine F.ok S (fun vs H Q E h=>?_) (fun cdv A outer s H vs Q E hr h=>?_)
 ·obtain⟨B,xs,us,a,s,ys,G,rfl,h1,h2,_⟩:=h
  rw[V1,h2.length,h1,hn]
 ·obtain⟨B,xs,us,a,s',ys,G,rfl,h1,h2,h3,h4,dn⟩:=h
  obtain⟨t,g,Y,hY,hYn,ht,hd,href⟩:=hbody cdv A outer s H E hr
  refine⟨t,ht, ?_⟩
  have A0:=Ag.initM (l:=l) h3 h2 h4 (show j<=xs.length by omega)
  have est:VY N (ins j (.ref a) us)=ins j (some (.ref a)) (us.map some++List.replicate l none):=by
   unfold VY
   rw[V1,h2.length,h1,hl,Zbz,Zb0 (by rw[ZtG,h2.length];omega)]
  rw[est]
  rw[h1] at A0
  refine hd _ (minus H G) H _ _ _ _ A0 ?_
  have hr:=href a (.box none s' ys) xs
  rw[show ZlX a (.box none s' ys)=.box (some a) s' ys from rfl] at hr
  cases em:m (.box none s' ys) xs with
  |bad=>rw[em] at dn;exact dn.elim
  |exc q=>rw[em] at dn;exact dn.elim
  |ok r =>
   rw[em] at dn hr
   obtain⟨y,s2,ys2,rfl,q⟩:=dn
   have ho:(g (ins j (.box (some a) s' ys) (xs++List.replicate l .non))).outN j=.ok (.tup [y,.box (some a) s2 ys2]):=by
    rcases hr with e|e
    ·cases e
    ·exact e.symm
   cases e:g (ins j (.box (some a) s' ys) (xs++List.replicate l .non)) with
   |next ρ =>
    rw[e] at ho
    have hy:PV.tup [.non,gv j ρ]=.tup [y,.box (some a) s2 ys2]:=by simpa[RS.outN] using ho
    simp only[PV.tup.injEq,List.cons.injEq,and_true] at hy
    obtain⟨rfl,hb⟩:=hy
    refine fun σ' H' F' fr A'=>?_
    obtain⟨v,w1,w2⟩:=A'.getO hYn
    rw[show ρ.getD j .non=.box (some a) s2 ys2 from hb] at w2
    have:=w2.pinned
    subst this
    exact q .non H' [] (F' j) A'.same ⟨rfl,rfl⟩ w2.unpin (by simp) (by simp) fun b hb=>A'.young j b hb
   |ret z =>
    rw[e] at ho
    have hy:z=.tup [y,.box (some a) s2 ys2]:=by simpa[RS.outN] using ho
    subst hy
    refine fun v H' s r=>?_
    rw[hY] at r
    obtain⟨y',a',s3,xs3,G1,G2,e1,r1,r2,r3,r4,r5⟩:=r
    simp only[PV.tup.injEq,List.cons.injEq,and_true,PV.box.injEq,Option.some.injEq] at e1
    obtain⟨rfl,rfl,rfl,rfl⟩:=e1
    exact q v H' G1 G2 s r1 r2.unpin r3 r4 r5
   |exc q=>rw[e] at ho;cases ho
   |brk ρ=>rw[e] at ho;cases ho
   |cont ρ=>rw[e] at ho;cases ho
   |bad=>rw[e] at ho;cases ho
end
def NoE {α:Type} (f:List PV->Rr α):Prop:=∀ρ e,f ρ≠.exc e
def DER (K:W.Frag) (Γ:List Md) (te:TE) (f:List PV->Rr PV):Prop:=NoE f /\
 ∀(B:Addr->Prop) (H0 H:Hp) (σ:St) (ρ:List PV) (F:Nat->List Addr) (R:List Addr) (Q:VK),Ag K B H0 H σ Γ ρ F R ->
  (∃x,f ρ=.ok x/\∀v,Rep K H (fun a=>a ∉ R) x v->Q v H)->te σ H Q
def DAR (K:W.Frag) (Γ:List Md) (ta:TA) (f:List PV->Rr (List PV)):Prop:=NoE f /\
 ∀(B:Addr->Prop) (H0 H:Hp) (σ:St) (ρ:List PV) (F:Nat->List Addr) (R:List Addr) (Q:List V->Hp->Prop),Ag K B H0 H σ Γ ρ F R ->
  (∃xs,f ρ=.ok xs/\∀vs,Reps K H (fun a=>a ∉ R) xs vs->Q vs H)->ta σ H Q
def DAM (K:W.Frag) (Γ:List Md) (i j:Nat) (ta:TA) (f:List PV->Rr (List PV)):Prop:=NoE f /\
 ∀(B:Addr->Prop) (H0 H:Hp) (σ:St) (ρ:List PV) (F:Nat->List Addr) (R:List Addr) (v:V) (Q:List V->Hp->Prop),Ag K B H0 H σ Γ ρ F R->σ[i]?=some (some v) ->
  (∃xs,f ρ=.ok xs/\∀vs,Reps K H (fun a=>a ∉ R) xs vs->Q (ins j v vs) H)->ta σ H Q
theorem bind_ok {α β:Type}{r:Rr α}{g:α->Rr β}{y:β} (h:r.bind g=.ok y):∃x,r=.ok x/\g x=.ok y:=by
 cases r with
 |ok x=>exact⟨x,rfl,h⟩
 |exc e=>cases h
 |bad=>cases h
theorem Zdo {α β:Type}{f:List PV->Rr α}{g:List PV->α->Rr β} (h1:NoE f) (h2:∀ρ x e,g ρ x≠.exc e):NoE (fun ρ=>(f ρ).bind (g ρ)):=fun ρ e q=>by
 cases ef:f ρ with
 |ok x=>simp only[ef] at q;exact h2 ρ x e q
 |exc e'=>exact h1 ρ e' ef
 |bad=>simp only[ef] at q;cases q
section
variable {K:W.Frag}{B:Addr->Prop}{EX:PX->Hp->Prop}{H0 H H':Hp}{σ:St}{Γ Γ1 Γ2:List Md}{ρ:List PV}{F F':Nat->List Addr}{R:List Addr}{te:TE}{ta:TA}{f:List PV->Rr PV}{fa:List PV->Rr (List PV)}{i j n:Nat}{m:PV->List PV->Rr PV}
theorem ZfW {l:Nat}{md:Md} (h:Γ[l]?=some md) (hm:md≠.U):DER K Γ (ZaW l) (fun ρ=>.ok (gv l ρ)):=⟨fun ρ e q=>(by cases q),fun B H0 H σ ρ F R Q A d=>by
 obtain⟨x,e,d⟩:=d
 cases e
 cases md with
 |U=>exact absurd rfl hm
 |P=>obtain⟨v,h1,h2,h3⟩:=A.getP h;exact⟨v,h1,d v (h3.flatS h2)⟩
 |S=>obtain⟨v,h1,h2⟩:=A.getS h;exact⟨v,h1,d v (Rep.mono (fun a u s r=>⟨r,s.2.1⟩) (fun a u r=>r) h2)⟩
 |T =>
  obtain⟨a,vs,xs,h1,h2,h3,h4,h5⟩:=A.getT h
  refine⟨_,h1,d _ ?_⟩
  rw[show gv l ρ=.lst xs from h2]
  exact⟨a,vs,rfl,.inl ⟨.inl h3,A.disjR l a (by rw[h5];simp)⟩,Reps.mono (fun a u s r=>⟨r,s.2.1⟩) (fun a u r=>r) h4⟩
 |O=>obtain⟨v,h1,h2⟩:=A.getO h;exact⟨v,h1,d v (h2.rep fun a ha=>A.disjR l a ha)⟩⟩
theorem ZjH:DAR K Γ Zey (fun _=>.ok []):=⟨fun ρ e q=>(by cases q),fun B H0 H σ ρ F R Q A d=>by
 obtain⟨x,e,d⟩:=d
 cases e
 exact d [] rfl⟩
theorem ZhM (ha:DAR K Γ ta fa):DAM K Γ i 0 (Qb (ZaW i) ta) fa:=⟨ha.1,fun B H0 H σ ρ F R v Q A hv d=>⟨v,hv,ha.2 B H0 H σ ρ F R _ A d⟩⟩
theorem ZdB (he:DER K Γ te f) (ha:DAM K Γ i j ta fa):DAM K Γ i (j+1) (Qb te ta) (fun ρ=>(f ρ).bind fun x=>(fa ρ).bind fun xs=>.ok (x::xs)):=⟨Zdo he.1 fun ρ x e q=>(Zdo (g:=fun _ xs=>.ok (x::xs)) ha.1 fun _ y e q=>by cases q) ρ e q,fun B H0 H σ ρ F R v Q A hv d=>by
 obtain⟨z,e,d⟩:=d
 obtain⟨x,e1,e⟩:=bind_ok e
 obtain⟨y,e2,e⟩:=bind_ok e
 cases e
 exact he.2 B H0 H σ ρ F R _ A ⟨x,e1,fun u hu=>ha.2 B H0 H σ ρ F R v _ A hv ⟨y,e2,fun vs hvs=>d (u::vs) ⟨u,vs,rfl,hu,hvs⟩⟩⟩⟩
def DM (K:W.Frag) (EX:PX->Hp->Prop) (Γ:List Md) (i:Nat) (te:TE) (fm:List PV->Rr (PV×PV)):Prop:=
 ∀(B:Addr->Prop) (H0 H:Hp) (σ:St) (ρ:List PV) (F:Nat->List Addr) (Q:VK),Ag K B H0 H σ Γ ρ F [] ->
  Dn (fm ρ) (fun r=>∀v H' F' G,Frm H F H' F'->ZZ K H' r.1 v G->(∀b∈G,H b=none\/∃l,b∈F l)->Ag K B H0 H' σ Γ (ρ.set i r.2) F' (G++[])->Q v H') (fun e=>∀H',Z7 H0 H'->EX e H')->te σ H Q
noncomputable def Zgu (m:PV->List PV->Rr PV) (x:PV) (xs:List PV):Rr (PV×PV):=match x with
 |.box p s ys=>match m (.box none s ys) xs with
  |.ok (.tup [y,.box none s' ys'])=>.ok (y,.box p s' ys')
  |_=>.bad
 |_=>.bad
theorem Zkx {α:Type}{l:List α}{i:Nat}{v:α} (h:l[i]?=some v):l.set i v=l:=by
 apply Zvh
 intro q
 by_cases e:i=q
 ·subst e;rw[ZtX (ZtC.mp h).1,h]
 ·rw[Zuj e]
theorem ZjC (hm:Γ[i]?=some .O) (hn:Len fa n) (ha:DAM K (Γ.set i .U) i j ta fa):DM K EX Γ i (Qc (spM K n j m) ta) (fun ρ=>(fa ρ).bind fun xs=>Zgu m (gv i ρ) xs):=fun B H0 H σ ρ F Q A d=>by
 obtain⟨v,h1,h2⟩:=A.getO hm
 have hi:=A.lt hm
 cases ea:fa ρ with
 |bad=>dsimp only at d;rw[ea] at d;exact d.elim
 |exc q=>exact absurd ea (ha.1 ρ q)
 |ok xs =>
  refine ha.2 B H0 H σ ρ _ (F i++[]) v _ (A.move hm) h1 ⟨xs,ea,fun vs hvs=>?_⟩
  dsimp only at d
  rw[ea] at d
  have d:Dn (Zgu m (gv i ρ) xs) _ _:=d
  unfold Zgu at d
  split at d
  ·rename_i p s ys er
   rw[show ρ.getD i .non=.box p s ys from er] at h2
   split at d
   ·rename_i y s2 ys2 em
    obtain⟨a,ws,u0,G0,rfl,hH,hb,ht,hna,hF⟩:=id h2
    refine⟨fun b=>b ∉ F i,xs,vs,a,s,ys,F i,rfl,hn ρ xs ea,Reps.mono (fun b u s r=>⟨r,fun z=>s (by simp[z])⟩) (fun b u r=>r) hvs,h2.unpin,fun b hb z=>hb z, ?_⟩
    rw[em]
    refine⟨y,s2,ys2,rfl,fun u H' G1 G2 sm t1 t2 dj n1 n2=>?_⟩
    have AL:=(A.move hm).lost sm
    have hiU:(Γ.set i .U)[i]?=some .U:=by rw[ZtX hi]
    have nw:∀b,minus H (F i) b=none->(∀l,b ∉ Vo F i [] l)/\H0 b=none:=fun b hb=>by
     refine⟨fun l z=>?_, ?_⟩
     ·by_cases q:l=i
      ·subst q;rw[Zs] at z;simp at z
      ·rw[Z4 q] at z
       rw[ZT (fun w=>A.disj l i q b z w)] at hb
       obtain⟨o,e⟩:=A.live l b z
       rw[hb] at e;cases e
     ·by_cases q:b∈F i
      ·exact A.young i b q
      ·rw[ZT q] at hb
       exact A.same.free hb
    have AM:Ag K B H0 H' σ (Γ.set i .U) ρ (Vo F i []) (G2++(G1++[])):=by
     refine⟨AL.same,AL.own,AL.young,fun b hb=>?_,AL.live,fun b hb=>?_,AL.disj,fun l b hb z=>?_,AL.lenS,AL.lenR,fun l=>?_⟩
     ·rcases ZtD.mp hb with z|z
      ·exact(nw b (n2 b z)).2
      ·exact(nw b (n1 b (by simpa using z))).2
     ·rcases ZtD.mp hb with z|z
      ·exact t2.alive b z
      ·exact t1.alive b (by simpa using z)
     ·rcases ZtD.mp z with z|z
      ·exact(nw b (n2 b z)).1 l hb
      ·exact(nw b (n1 b (by simpa using z))).1 l hb
     ·refine((A.move hm).slot l).mono (fun b o s r=>⟨(r.minus (fun z=>s.2.1 (by simp[z]))).same sm,s.1,fun z=>?_,s.2.2⟩) (fun b o r=>sm.im (r.minus fun c hc=>A.live i c hc)) fun b hb o q=>sm _ _ ?_
      ·have hb:minus H (F i) b≠none:=by
        rw[ZT (fun z=>s.2.1 (by simp[z]))]
        rcases r with r|⟨o',r⟩<;>(rw[r];simp)
       rcases ZtD.mp z with z|z
       ·exact hb (n2 b z)
       ·exact hb (n1 b (by simpa using z))
      ·rw[ZT (fun z=>(A.move hm).disjR l b hb (by simp[z]))];exact q
    have AP:=Ag.put (i:=i) (m:=.O) (x:=.box p s2 ys2) (v:=.ref a) (G:=G2) (R:=G1++[]) AM (by rw[ZuM];exact hi) (fun b hb z=>dj b (by simpa using z) hb) ⟨.ref a,rfl,t2.repin hb.1⟩
    rw[Zkx h1,List.set_set,ZgR hm] at AP
    refine d u H' _ G1 (fun b o h n=>?_) t1 (fun b hb=>?_) AP
    ·have e:minus H (F i) b=some o:=by rw[ZT (n i)];exact h
     refine⟨sm _ _ e,fun l z=>?_⟩
     by_cases q:l=i
     ·subst q
      rw[Zs] at z
      rw[n2 b z] at e;cases e
     ·rw[Z4 q,Z4 q] at z
      exact n l z
    ·have:=n1 b hb
     by_cases q:b∈F i
     ·exact .inr ⟨i,q⟩
     ·rw[ZT q] at this;exact .inl this
   ·exact d.elim
  ·exact d.elim
variable {fm:List PV->Rr (PV×PV)}{k:Kd}{l:Nat}
theorem ZaC {F1:Nat->List Addr}{G:List Addr} (fr:Frm H F H' F1) (hG:∀a∈G,H a=none\/∃j,a∈F j):Frm H F H' (Vo F1 l G):=fun b o h n=>by
 obtain⟨h1,h2⟩:=fr b o h n
 refine⟨h1,fun q z=>?_⟩
 by_cases e:q=l
 ·subst e;rw[Zs] at z
  rcases hG b z with w|⟨c,w⟩
  ·rw[h] at w;cases w
  ·exact n c w
 ·rw[Z4 e] at z;exact h2 q z
theorem ZhB (he:DM K EX Γ i te fm) (hl:l<Γ.length):DS K EX Γ ⟨Γ.set l .O,Γ1,Γ2,k⟩ (ZgO te (ZaB l)) (fun ρ=>(fm ρ).thenS fun r=>.next ((ρ.set i r.2).set l r.1)):=fun B H0 H σ ρ F D A d=>by
 refine he B H0 H σ ρ F _ A (d.thenS.imp (fun r _ d v H1 F1 G fr t1 h1 A1=>?_) fun e q=>q)
 exact d _ H1 _ (ZaC fr h1) (Ag.put (R:=[]) A1 hl (by simp) ⟨v,rfl,t1⟩)
end
noncomputable def Pm.fnM (m:Pm) (b:PV) (xs:List PV):Rr PV:=m.fn (b::xs)
theorem hu1 {n c:Nat} (h:n+64<c):n+1<c:=by omega
theorem ZgU {y:PV}{a:Addr}{s:Sh}{xs:List PV}:ZlT y (.box (some a) s xs)=.ret (.tup [y,.box (some a) s xs]):=rfl
theorem ZhQ {m:PV->List PV->Rr PV}{p:Option Addr}{s s':Sh}{ys ys' xs:List PV}{y:PV} (h:m (.box none s ys) xs=.ok (.tup [y,.box none s' ys'])):Zgu m (.box p s ys) xs=.ok (y,.box p s' ys'):=by
 unfold Zgu
 simp only[h]
section
variable {prog:Program}{w:World}{A:Around}{s:Shared}
theorem Zdu {fin:Bool}{Q:Bool->Shared->Prop}:∀{ns ms:List Int}{vs ws:List Value}{i:Nat},Jb (ns.map V.int) vs->Jb (ms.map V.int) ws->fin=decide (vs.length<ws.length)->Q (HT.ZL ns ms) s ->
  PySem.W.KatLex prog w A true fin Q (vs.zip ws) i s
 |[],[],_,_,i,.nil,.nil,e,q=>by subst e;exact q
 |[],m::ms,_,_,i,.nil,.cons r t,e,q=>by
  have:fin=true:=by rw[e];simp
  subst this
  exact q
 |n::ns,[],_,_,i,.cons r t,.nil,e,q=>by
  have:fin=false:=by rw[e];simp
  subst this
  exact q
 |n::ns,m::ms,_,_,i,.cons r t,.cons r' t',e,q=>by
  obtain⟨k,rfl⟩:=r
  obtain⟨k',rfl⟩:=r'
  rw[Zva]
  refine PySem.W.kat_cons (wpAny_eqBool_int ?_)
  rw[HT.JC] at q
  by_cases h:n=m
  ·subst h
   rw[if_pos rfl] at q
   simp only[beq_self_eq_true]
   exact PySem.W.kat_yes (Zdu t t' (by rw[e];simp) q)
  ·rw[if_neg h] at q
   have hb:(n==m)=false:=by simpa using h
   rw[hb]
   refine PySem.W.kat_no ?_
   cases i with
   |zero=>exact oneLt_int q
   |succ i=>exact PySem.W.kat_one _ _ (PyProof.Rows.lt_int q)
end
noncomputable def Jh (t:List Int):PV:=.tup (t.map PV.int)
theorem VU:∀{a b:List (List Int)},a.map Jh=b.map Jh->a=b
 |[],[],_=>rfl
 |[],y::b,h=>by simp at h
 |x::a,[],h=>by simp at h
 |x::a,y::b,h=>by
  simp only[ZtP,List.cons.injEq,Jh,PV.tup.injEq] at h
  rw[Jn h.1,VU h.2]
section
variable {K:W.Frag}{B:Addr->Prop}{EX:PX->Hp->Prop}{H0 H:Hp}{σ:St}{Γ Γ1 Γ3:List Md}{ρ:List PV}{F:Nat->List Addr}{R:List Addr}{k:Kd}
theorem Zj8 {i:Nat} (hm:Γ[i]?=some .O):DS K EX Γ ⟨Γ,Γ1,Γ3,k⟩ (ZdO (tBM K "list" ZcZ (ZaW i) Zey)) (fun ρ=>(asL (gv i ρ)).thenS fun xs=>(newF xs.reverse).thenS fun z=>.next (ρ.set i z)):=fun B H0 H σ ρ F D A d=>by
 obtain⟨v,h1,h2⟩:=A.getO hm
 refine⟨v,h1, ?_⟩
 obtain⟨xs,e1,d⟩:=Dn.asL d.thenS
 rw[show ρ.getD i .non=.lst xs from e1] at h2
 obtain⟨a,vs,G,rfl,hH,ht,hn,hF⟩:=h2
 obtain⟨fl,hz,d⟩:=Dn.newF d.thenS
 refine⟨.inl ⟨rfl,_,SqL.of hH⟩,a,vs,rfl,rfl,hH, ?_⟩
 have haF:a∈F i:=by rw[hF];simp
 have hr:Reps K H (fun _=>True) xs.reverse vs.reverse:=Reps.rev (ht.reps fun _ _=>trivial)
 refine d σ _ (Vo F i [a]) (V3 (Z7.refl H) (fun _ _ h=>h) haF fun b hb=>.inr ⟨i,by rw[hF];simpa using .inl (ZtQ.mp hb)⟩) (Ag.chg (G:=[]) (R:=[]) A hm haF (fun b hb=>.inl (by rw[hF];simpa using .inl (ZtQ.mp hb))) (by simp) ?_)
 exact⟨_,h1,a,_,[],rfl,ZD,(hr.trees fl).put hH (by simp),by simp,rfl⟩
end
theorem Pm.refM2 (m:Pm) {r:Addr->PV->List PV->Rr PV} (h:∀i,m.pre i->∀a b xs,m.enc i=b::xs->r a b xs=ZlW a (m.out i)):∀a b xs,Ref (ZlW a (m.fnM b xs)) (r a b xs):=fun a b xs=>by
 unfold Pm.fnM Pm.fn
 by_cases hx:∃i,m.enc i=b::xs/\m.pre i
 ·rw[dif_pos hx]
  exact .inr (h _ hx.choose_spec.2 a b xs hx.choose_spec.1).symm
 ·rw[dif_neg hx];exact .inl rfl
theorem Zgz:bootBuiltins "sorted"=some (.builtin "sorted"):=by decide +kernel
section
variable {prog:Program}{w:World}{A:Around}{E:Value->Shared->Prop}{s:Shared}
theorem ZdQ {a:Addr}{vs:List Value}{n:Nat}{P:PySem.Fin->Shared->Prop} (κ:SortKind) (Rv:Value->Value->Bool) (ho:s.heap.get? a=some (seqObj "list" vs.toArray n)) (hz:vs.length<=1000000)
  (hk:2<=vs.length->∀(s1:Shared) (Q:SortKind->Shared->Prop),(∀b o,b≠a->s.heap.get? b=some o->s1.heap.get? b=some o)->Q κ s1->wpAny (model prog w) A (keyKind' vs.toArray) Q E s1)
  (hc:∀(s1:Shared) x y,x∈vs->y∈vs->(∀b o,b≠a->s.heap.get? b=some o->s1.heap.get? b=some o)->∀C:Bool->Shared->Prop,C (Rv x y) s1->wpAny (model prog w) A (keyLt' κ x y) C (fun _ _=>False) s1)
  (asy:∀x y,x∈vs->y∈vs->Rv x y=true->Rv y x=false) (tr:∀x y z,x∈vs->y∈vs->z∈vs->Rv y x=false->Rv z y=false->Rv z x=false)
  (hq:∀h' c out,(∀b o,b≠a->s.heap.get? b=some o->h'.get? b=some o)->out.Perm vs->out.Pairwise (fun x y=>Rv y x=false)->h'.get? a=some (seqObj "list" (List.toArray out) c)->P (.done (.ret .none)) { s with heap:=h' }) :
  wpAny (model prog w) A (Builtin.«list.sort» ⟨[.ref a],[]⟩) P E s:=by
 have la:a<s.heap.objs.size:=Heap.lt_size ho
 have line:vs.length<=sizeLine:=Ug hz
 obtain⟨e1,ho1⟩:∃c,(s.heap.update a (Obj.mapSeq fun _=>(#[]:Array Value))).get? a=some (seqObj "list" #[] c):=⟨_,get?_update_seq ho _⟩
 rw[list_sort_plain]
 refine wpAny_bind (listItems_at ho rfl (wpAny_bind (listUpdate_at ho rfl (wpAny_bind (seqEpoch_at ho1 rfl (wpAny_bind (wpAny_newTuple (wpAny_bind (wpAny_newList (wpAny_holding ?_) (Zub _))) ?_)))) ?_ (Zub _))))
 rotate_left
 ·exact line
 ·rw[ZtL];exact line
 generalize eh:((s.heap.update a (Obj.mapSeq fun _=>(#[]:Array Value))).push (seqObj "tuple" vs.toArray 0)).push (seqObj "list" #[] 0)=h3
 have k3:∀b o,b≠a->s.heap.get? b=some o->h3.get? b=some o:=fun b o nb q=>by
  subst eh
  exact Heap.get?_push_of_some _ (Heap.get?_push_of_some _ ((Heap.get?_update_ne _ _ _ _ nb).trans q))
 have a3:h3.get? a=some (seqObj "list" #[] e1):=by subst eh;exact Heap.get?_push_of_some _ (Heap.get?_push_of_some _ ho1)
 show wpAny _ _ _ P E { s with heap:=h3 }
 have fin:∀(out:List Value) (st:SortSt),(arrOf st).map (·.2)=List.toArray out->failedOf st=none->out.Perm vs->out.Pairwise (fun x y=>Rv y x=false) ->
   wpAny (model prog w) A (do
    let sorted:=(arrOf st).map (·.2)
    let touched:=(<- seqEpoch a) != e1
    Builtin.List.listUpdate (.ref a) fun _=>sorted
    if let some e:=failedOf st then rule "list.sort.comparison-raised";throw e
    if touched then rule "list.sort.modified";raiseError "ValueError" "list modified during sort"
    ret .none) P E { s with heap:=h3 }:=fun out st ho hf hl hout=>by
  dsimp only
  rw[ho,hf]
  obtain⟨c2,hc2⟩:∃c,(h3.update a (Obj.mapSeq fun _=>List.toArray out)).get? a=some (seqObj "list" (List.toArray out) c):=⟨_,get?_update_seq a3 _⟩
  refine wpAny_bind (seqEpoch_at a3 rfl (wpAny_bind (listUpdate_at a3 rfl ?_ (Zub _) ?_)))
  ·simp only[bne_self_eq_false,Bool.false_eq_true,if_false]
   exact wpAny_pure (hq _ c2 out (fun b o nb q=>(Heap.get?_update_ne _ _ _ _ nb).trans (k3 b o nb q)) hl hout hc2)
  ·show (List.toArray out).size<=_
   rw[ZtL,hl.length_eq];exact ZtV line (Nat.le_succ _)
 dsimp only
 have zs:((vs.toArray.zip vs.toArray).map (·.2))=vs.toArray:=by
  apply Zvp.mp
  simp only[Zvq,Array.toList_zip]
  exact List.map_snd_zip (ZtE _)
 by_cases h2:vs.length<2
 ·have e2:vs.toArray.size<2:=by rw[ZtL];exact h2
  rw[if_pos e2,if_pos e2]
  refine wpAny_bind (wpAny_pure (wpAny_bind (wpAny_pure ?_)))
  refine fin vs _ zs rfl (List.Perm.refl _) ?_
  match vs,h2 with
  |[],_=>exact List.Pairwise.nil
  |[x],_=>exact Zvc _ _
 ·have e2:¬vs.toArray.size<2:=by rw[ZtL];exact h2
  rw[if_neg e2,if_neg e2]
  refine wpAny_bind (hk (by omega) _ _ k3 ?_)
  have zmem:∀x∈vs.toArray.zip vs.toArray,x.1∈vs/\x.1=x.2:=fun x hx=>by
   have hx:x∈vs.zip vs:=by simpa using hx
   obtain⟨i,hi⟩:=Zu4 hx
   rw[List.getElem?_zip_eq_some] at hi
   have e:=hi.1.symm.trans hi.2
   exact⟨ZtA hi.1,Option.some.inj e⟩
  have C:Ut prog w A { s with heap:=h3 } κ (fun x=>x.1∈vs/\x.1=x.2) (fun x y=>Rv x.1 y.1):=
   ⟨fun x y hx hy Q q=>hc _ _ _ hx.1 hy.1 k3 Q q,fun x y hx hy q=>asy _ _ hx.1 hy.1 q,fun x y z hx hy hz q r=>tr _ _ _ hx.1 hy.1 hz.1 q r⟩
  have run:=ZbO (E:=E) C (st:=SortSt.mk' κ (vs.toArray.zip vs.toArray) #[] 7 none) (Q:=fun _ st'=>failedOf st'=none/\(arrOf st').Perm (vs.toArray.zip vs.toArray)/\Up (fun x y=>Rv x.1 y.1) (arrOf st') 0 (vs.toArray.zip vs.toArray).size) rfl rfl
   (fun i hi=>zmem _ (Array.mem_of_getElem? (QZ hi))) rfl (fun st' k1 k2 k3=>⟨k1,k2,k3⟩)
  refine wpAny_bind (wpAny_mono run ?_ fun _ _ e=>e)
  rintro⟨⟨⟩,st⟩ s' ⟨rfl,hf,hp,hu⟩
  dsimp only at hf hp hu
  have hsz:(arrOf st).size=(vs.toArray.zip vs.toArray).size:=hp.size_eq
  have same:∀x∈(arrOf st).toList,x.1=x.2:=fun x hx=>(zmem x ((Array.Perm.mem_iff hp).mp (by simpa using hx))).2
  refine fin ((arrOf st).toList.map (·.2)) st ?_ hf ?_ ?_
  ·apply Zvp.mp
   rw[Zvq]
  ·have p1:((arrOf st).toList.map (·.2)).Perm ((vs.toArray.zip vs.toArray).toList.map (·.2)):=(Zv0.mp hp).map _
   have p2:=congrArg Array.toList zs
   rw[Zvq] at p2
   rw[p2] at p1
   simpa using p1
  ·have sr:=hu.srt (Nat.le_of_eq (by rw[Zuu,hsz]))
   rw[ZuQ,Zue (Nat.le_of_eq (by rw[ZtH,hsz]))] at sr
   rw[ZuF]
   refine List.Pairwise.imp_of_mem ?_ sr
   intro x y hx hy q
   rw[<- same x hx,<- same y hy];exact q
theorem ZbW {l:Addr}{vs:List Value}{Q:Value->Shared->Prop} (κ:SortKind) (Rv:Value->Value->Bool) (hl:s.heap.IsList l vs.toArray) (hz:vs.length<=1000000)
  (hk:2<=vs.length->∀(s1:Shared) (Q:SortKind->Shared->Prop),(∀b o,s.heap.get? b=some o->s1.heap.get? b=some o)->Q κ s1->wpAny (model prog w) A.in1.in1 (keyKind' vs.toArray) Q E s1)
  (hc:∀(s1:Shared) x y,x∈vs->y∈vs->(∀b o,s.heap.get? b=some o->s1.heap.get? b=some o)->∀C:Bool->Shared->Prop,C (Rv x y) s1->wpAny (model prog w) A.in1.in1 (keyLt' κ x y) C (fun _ _=>False) s1)
  (asy:∀x y,x∈vs->y∈vs->Rv x y=true->Rv y x=false) (tr:∀x y z,x∈vs->y∈vs->z∈vs->Rv y x=false->Rv z y=false->Rv z x=false)
  (hq:∀D h' c out,(∀b o,s.heap.get? b=some o->h'.get? b=some o)->s.heap.objs.size<=D->out.Perm vs->out.Pairwise (fun x y=>Rv y x=false)->h'.get? D=some (seqObj "list" (List.toArray out) c)->Q (.ref D) { s with heap:=h' }) :
  wpAny (model prog w) A (call (.builtin "sorted") [.ref l]) Q E s:=by
 refine Calls.call_function_entry kind_sorted plain_sorted entry_sorted (args_sorted1 _) ?_
 unfold Builtin.«sorted»
 have line:vs.length<=sizeLine:=Ug hz
 refine wpAny_bind (m:=checkCount "sorted" 1 1 _) (wpAny_pure (wpAny_bind (collect_list hl (wpAny_bind (wpAny_newList ?_ line)) line)))
 generalize eg:(s.heap.push (seqObj "list" #[] 0)).update s.heap.objs.size (Obj.mapSeq (·++vs.toArray))=h1
 have z1:h1.objs.size=s.heap.objs.size+1:=by subst eg;rw[Heap.size_update,size_push']
 have k1:∀b o,s.heap.get? b=some o->h1.get? b=some o:=fun b o q=>by
  have lb:=Heap.lt_size q
  subst eg
  rw[Heap.get?_update_ne _ _ _ _ (ZtU lb)]
  exact Heap.get?_push_of_some _ q
 have hD:(h1.push (seqObj "list" vs.toArray 0)).get? h1.objs.size=some (seqObj "list" vs.toArray 0):=Heap.get?_push_size _ rfl
 show wpAny _ _ _ _ _ { s with heap:=h1.push (seqObj "list" vs.toArray 0) }
 have up:∀(h2:Heap),(∀b o,b≠h1.objs.size->(h1.push (seqObj "list" vs.toArray 0)).get? b=some o->h2.get? b=some o)->∀b o,s.heap.get? b=some o->h2.get? b=some o:=fun h2 k b o q =>
  k b o (ZtU (by rw[z1];exact Zv6 (Heap.lt_size q))) (Heap.get?_push_of_some _ (k1 b o q))
 refine wpAny_bind (wpAny_holding (wpAny_call_entry slot_list_sort ⟨_,hD,rfl⟩ entry_list_sort (ZdQ (s:={ s with heap:=h1.push (seqObj "list" vs.toArray 0) }) κ Rv hD hz (fun h2 s1 Q k q=>hk h2 s1 Q (up _ k) q) (fun s1 x y hx hy k C q=>hc s1 x y hx hy (up _ k) C q) asy tr fun h' c out k p1 p2 e=>?_) (args_list_sort _)))
 exact⟨_,rfl,wpAny_pure ⟨_,rfl,hq _ h' c out (up _ k) (by rw[z1];exact Nat.le_succ _) p1 p2 e⟩⟩
end
noncomputable def ZmW:Value->Int
 |.int i _=>i
 |_=>0
theorem Uv:∀{ns:List Int}{us:List Value},Jb (ns.map V.int) us->us.map ZmW=ns/\∀u∈us,∃i t,u=Value.int i t
 |[],_,.nil=>⟨rfl,by simp⟩
 |n::ns,_,.cons (b:=u) r rr=>by
  obtain⟨t,rfl⟩:=r
  obtain⟨h1,h2⟩:=Uv rr
  refine⟨by rw[ZtP,h1];rfl,fun v hv=>?_⟩
  rcases ZtN.mp hv with rfl|hv
  ·exact⟨n,t,rfl⟩
  ·exact h2 v hv
section
variable {K:W.Frag}{EX:PX->Hp->Prop}{Γ Γ1 Γ2:List Md}{ta tb:TE}{fa fb:List PV->Rr PV}
noncomputable abbrev ZmD:PV->PV->Rr PV:=oI (fun i j=>decide (0<=j)) fun i j=>.int (i/2^j.toNat)
theorem Zls (ha:DE K EX Γ Γ1 .A ta fa) (hb:DE K EX Γ1 Γ2 .A tb fb):DE K EX Γ Γ2 .P (tOp (rI (fun _ j=>0<=j) fun i j=>.int (i/2^j.toNat)) ta tb) (fun ρ=>(fa ρ).bind fun x=>(fb ρ).bind fun y=>ZmD x y):=Zga (fun _ _ h=>of_decide_eq_true h) (fun _ _ _=>rfl) (fun _ _=>rfl) ha hb
theorem Zfe {i j:Int} (h1:0<=j):ZmD (.int i) (.int j)=.ok (.int (i/2^j.toNat)):=Zbq (decide_eq_true h1)
end
noncomputable def Zka (x:List Int):List (List Int)->List (List Int)
 |[]=>[x]
 |y::l=>if HT.ZL y x=true then y::Zka x l else x::y::l
noncomputable def ZdP:List (List Int)->List (List Int)
 |[]=>[]
 |x::l=>Zka x (ZdP l)
noncomputable abbrev UpU (l:List (List Int)):Prop:=l.Pairwise fun a b=>HT.ZL b a=false
theorem Q2 (x:List Int):∀l,(Zka x l).Perm (x::l)
 |[]=>List.Perm.refl _
 |y::l=>by
  unfold Zka
  split
  ·exact((Q2 x l).cons y).trans (List.Perm.swap x y l)
  ·exact List.Perm.refl _
theorem JE:∀l,(ZdP l).Perm l
 |[]=>List.Perm.refl _
 |x::l=>(Q2 x _).trans ((JE l).cons x)
theorem U9 {a b c:List Int} (h1:HT.ZL b a=false) (h2:HT.ZL c b=false):HT.ZL c a=false:=by
 cases h:HT.ZL c a with
 |false=>rfl
 |true =>
  exfalso
  cases h3:HT.ZL a b with
  |true=>rw[HL.VN h h3] at h2;cases h2
  |false=>rw[HL.JH h3 h1] at h;rw[h] at h2;cases h2
theorem Zbs {a b:List Int} (h:HT.ZL a b=true):HT.ZL b a=false:=by
 cases h2:HT.ZL b a with
 |false=>rfl
 |true=>have:=HL.VN h h2;rw[HL.V0] at this;cases this
theorem ZfF {x:List Int}:∀{l:List (List Int)},UpU l->UpU (Zka x l)
 |[],_=>Zvc _ _
 |y::l,h=>by
  obtain⟨h1,h2⟩:=Zu3.mp h
  unfold Zka
  split
  ·rename_i e
   refine Zu3.mpr ⟨fun z hz=>?_,ZfF h2⟩
   rcases ZtN.mp ((Q2 x l).mem_iff.mp hz) with rfl|hz
   ·exact Zbs e
   ·exact h1 z hz
  ·rename_i e
   have e:=Bool.eq_false_iff.mpr e
   refine Zu3.mpr ⟨fun z hz=>?_,h⟩
   rcases ZtN.mp hz with rfl|hz
   ·exact e
   ·exact U9 e (h1 z hz)
theorem ZbU:∀l,UpU (ZdP l)
 |[]=>List.Pairwise.nil
 |x::l=>ZfF (ZbU l)
theorem ZcJ:∀{l m:List (List Int)},UpU l->UpU m->l.Perm m->l=m
 |[],m,_,_,p=>(List.nil_perm.mp p).symm
 |x::l,[],_,_,p=>absurd (List.perm_nil.mp p) (by simp)
 |x::l,y::m,h1,h2,p=>by
  obtain⟨a1,a2⟩:=Zu3.mp h1
  obtain⟨b1,b2⟩:=Zu3.mp h2
  have e:x=y:=by
   have hx:x∈y::m:=p.mem_iff.mp (by simp)
   have hy:y∈x::l:=p.mem_iff.mpr (by simp)
   rcases ZtN.mp hx with z|z
   ·exact z
   ·rcases ZtN.mp hy with z'|z'
    ·exact z'.symm
    ·exact HL.JH (b1 x z) (a1 y z')
  subst e
  rw[ZcJ a2 b2 (List.perm_cons _ |>.mp p)]
noncomputable def U6 (ts:List PL2) (a:Addr):List Int:=((ts.find? fun t=>decide (t.1=a)).map (·.2)).getD []
theorem ZaH {ts:List PL2} (hu:∀t∈ts,∀t'∈ts,t.1=t'.1->t.2=t'.2) {t:PL2} (ht:t∈ts):U6 ts t.1=t.2:=by
 unfold U6
 cases hf:ts.find? fun q=>decide (q.1=t.1) with
 |none=>exact absurd (decide_eq_true rfl) (Zv4.mp hf t ht)
 |some q =>
  have h1:=List.find?_some hf
  have h2:=List.mem_of_find?_eq_some hf
  exact hu q h2 t ht (of_decide_eq_true h1)
noncomputable def Zaj:Value->Addr
 |.ref a=>a
 |_=>0
theorem ZaT:∀{ts:List PL2}{us:List Value},Jb (ts.map fun t=>V.ref t.1) us->us=ts.map fun t=>Value.ref t.1
 |[],_,.nil=>rfl
 |t::ts,_,.cons r rr=>by
  have r:_=Value.ref t.1:=r
  rw[r,ZaT rr];rfl
theorem Zbb:∀(ts:List PL2),Jb (ts.map fun t=>V.ref t.1) (ts.map fun t=>Value.ref t.1)
 |[]=>.nil
 |t::ts=>.cons rfl (Zbb ts)
section
variable {X:Cx}
def ZeP (K:W.Frag):List V->Hp->VK->Prop:=fun xs H Q=>∃p,∃ts:List PL2,xs=[.ref p]/\SqL K H p (ts.map fun t=>V.ref t.1) /\
  (∀t∈ts,SqT K H t.1 (t.2.map V.int)/\t.2≠[])/\ts.length<=1000000/\∀l,H l=none->∀qs:List PL2,qs.Perm ts->UpU (qs.map (·.2))->Q (.ref l) (upd H l (.lst (qs.map fun t=>V.ref t.1)))
theorem Zes:JX X (.builtin "sorted") (ZeP X.K):=by
 intro pins s σ H xs us Q I r h
 obtain⟨p,ts,rfl,hq,hall,hz0,q⟩:=h
 obtain⟨u,rfl,rx⟩:=QE r
 cases rx
 obtain⟨its,r',pl,hz⟩:=I.list hq
 have hits:=ZaT r'
 subst hits
 have tup:∀(s1:Shared),(∀b o,s.heap.get? b=some o->s1.heap.get? b=some o)->∀t∈ts,∃vs:List Value,Jb (t.2.map V.int) vs/\IsTup s1.heap t.1 vs.toArray:=fun s1 k t ht=>by
  have I':Inv X pins σ H { s with heap:=s1.heap,toks:=s1.toks }:=I.kept k
  obtain⟨vs,rv,pt,_⟩:=I'.tuple (hall t ht).1
  exact⟨vs,rv,pt⟩
 have hu:∀t∈ts,∀t'∈ts,t.1=t'.1->t.2=t'.2:=fun t ht t' ht' e=>by
  obtain⟨vs,rv,ob,eo,oc,k1,od⟩:=tup s (fun _ _ h=>h) t ht
  obtain⟨vs',rv',ob',eo',oc',k1',od'⟩:=tup s (fun _ _ h=>h) t' ht'
  rw[e,eo'] at eo
  cases eo
  rw[od] at od'
  have e2:vs.toArray=vs'.toArray:=by injection od'
  have e3:vs=vs':=by simpa using e2
  subst e3
  rw[<- (Uv rv).1,<- (Uv rv').1]
 refine ZbW (tuples' true) (fun x y=>HT.ZL (U6 ts (Zaj x)) (U6 ts (Zaj y))) pl.isList (by simpa using hz0) (fun h2 s1 Q' k q'=>?_) (fun s1 x y hx hy k C q'=>?_) (fun x y _ _ h=>Zbs h) (fun x y z _ _ _ h1 h2=>U9 h1 h2) fun D h' c out k hD p1 p2 e=>?_
 ·have:∀(ts:List PL2) (its:List Value),(∀t∈ts,t.2≠[]/\∃vs:List Value,Jb (t.2.map V.int) vs/\IsTup s1.heap t.1 vs.toArray)->Jb (ts.map fun t=>V.ref t.1) its->∃fs:List Value,fs.length=ts.length/\PySem.W.KatTups s1.heap its fs/\∀v∈fs,∃n t,v=Value.int n t:=by
   intro ts
   induction ts with
   |nil =>
    intro its _ rv
    cases rv
    exact⟨[],rfl,trivial,by simp⟩
   |cons t ts ih =>
    intro its ht rv
    cases rv with
    |cons rv tv =>
     obtain⟨fs,e1,e2,e3⟩:=ih _ (fun t' h'=>ht t' (Zui _ h')) tv
     obtain⟨hne,vs,rvs,ob,eo,oc,k,od⟩:=ht t (ZuB ..)
     obtain⟨n,ns,en⟩:=List.exists_cons_of_ne_nil hne
     rw[en] at rvs
     cases rvs with
     |cons rn tn =>
      obtain⟨tk,rfl⟩:=rn
      have rv':_=Value.ref t.1:=rv
      subst rv'
      exact⟨.int n tk::fs,by simp[e1],⟨⟨t.1,ob,_,k,rfl,eo,oc,od,rfl⟩,e2⟩,fun v hv=>(ZtN.mp hv).elim (fun z=>⟨n,tk,z⟩) (e3 v)⟩
  obtain⟨fs,e1,e2,e3⟩:=this ts _ (fun t ht=>⟨(hall t ht).2,tup s1 k t ht⟩) r'
  exact PySem.W.kat_kind (T:=.type "int") e2 (by rw[e1];simp at h2;omega) (fun v hv=>by obtain⟨n,t,rfl⟩:=e3 v hv;exact PySem.W.Looks.of_pure rfl) rfl q'
 ·obtain⟨t,ht,rfl⟩:=ZtY.mp hx
  obtain⟨t',ht',rfl⟩:=ZtY.mp hy
  obtain⟨vs,rv,ob,eo,oc,k1,od⟩:=tup s1 k t ht
  obtain⟨vs',rv',ob',eo',oc',k1',od'⟩:=tup s1 k t' ht'
  refine PySem.W.kat_lt eo od eo' od' (Zdu rv rv' ?_ ?_)
  ·simp
  ·rw[show Zaj (.ref t.1)=t.1 from rfl,show Zaj (.ref t'.1)=t'.1 from rfl,ZaH hu ht,ZaH hu ht'] at q'
   exact q'
 ·have ho:∀u∈out,∃t∈ts,u=Value.ref t.1:=fun u hu=>by
   obtain⟨t,ht,e⟩:=ZtY.mp (p1.mem_iff.mp hu)
   exact⟨t,ht,e.symm⟩
  have hp:(out.map fun v=>((Zaj v,U6 ts (Zaj v)):PL2)).Perm ts:=by
   have h1:=p1.map fun v=>((Zaj v,U6 ts (Zaj v)):PL2)
   rw[Zum] at h1
   have h2:ts.map ((fun v=>((Zaj v,U6 ts (Zaj v)):PL2))∘fun t=>Value.ref t.1)=ts:=by
    have:ts.map ((fun v=>((Zaj v,U6 ts (Zaj v)):PL2))∘fun t=>Value.ref t.1)=ts.map id:=ZuI fun t ht=>by
     show ((t.1,U6 ts t.1):PL2)=t
     rw[ZaH hu ht]
    rw[this,ZvG]
   rw[h2] at h1
   exact h1
  have hup:UpU ((out.map fun v=>((Zaj v,U6 ts (Zaj v)):PL2)).map (·.2)):=by
   rw[Zum]
   exact ZuF.mpr (p2.imp fun h=>h)
  have hout:out=(out.map fun v=>((Zaj v,U6 ts (Zaj v)):PL2)).map fun t=>Value.ref t.1:=by
   rw[Zum]
   have:out.map ((fun(t:PL2)=>Value.ref t.1)∘fun v=>((Zaj v,U6 ts (Zaj v)):PL2))=out.map id:=ZuI fun u hu=>by
    obtain⟨t,ht,rfl⟩:=ho u hu
    rfl
   rw[this,ZvG]
  generalize (out.map fun v=>((Zaj v,U6 ts (Zaj v)):PL2))=qs at hp hup hout
  have I1:Inv X pins σ (upd H D (.lst (qs.map fun t=>V.ref t.1))) { s with heap:=h' }:=by
   refine I.laid (t':=s.toks) k hD ⟨?_,_,c, ?_,e⟩
   ·rw[ZtG,hp.length_eq];exact Ug hz0
   ·rw[hout];exact Zbb qs
  exact⟨.ref D,_,I1,rfl,q D (I.hok.fresh hD) qs hp hup⟩
theorem Zc4 {K:W.Frag} (e:X.K=K:=by rfl):JX X (.builtin "sorted") (ZeP K):=by subst e;exact Zes
end
def OkU (ts:List (List Int)):Prop:=(∀t∈ts,t≠[])/\ts.length<=1000000
open Classical in
noncomputable def Zde (xs:List PV):Rr PV:=if h:∃ts:List (List Int),xs=[.lst (ts.map Jh)]/\OkU ts then newF ((ZdP h.choose).map Jh) else .bad
theorem Zfd {ts:List (List Int)} (h:OkU ts):Zde [.lst (ts.map Jh)]=newF ((ZdP ts).map Jh):=by
 have hex:∃us:List (List Int),[PV.lst (ts.map Jh)]=[.lst (us.map Jh)]/\OkU us:=⟨ts,rfl,h⟩
 unfold Zde
 rw[dif_pos hex]
 have hs:ts.map Jh=hex.choose.map Jh:=PV.lst.inj (List.cons.inj hex.choose_spec.1).1
 have e:hex.choose=ts:=(VU hs).symm
 rw[e]
section
variable {K:W.Frag}{B:Addr->Prop}{EX:PX->Hp->Prop}{H0 H:Hp}{σ:St}{Γ Γ':List Md}{ρ:List PV}{F:Nat->List Addr}{R:List Addr}{ta:TA}{fa:List PV->Rr (List PV)}
theorem QM {S:Addr->Prop}:∀{ts:List (List Int)}{vs:List V},Reps K H S (ts.map Jh) vs->∃qs:List PL2,vs=(qs.map fun t=>V.ref t.1)/\(qs.map fun t=>t.2)=ts/\∀t∈qs,SqT K H t.1 (t.2.map V.int)/\Rep K H S (Jh t.2) (V.ref t.1)
 |[],vs,h=>⟨[],h,rfl,by simp⟩
 |ns::ts,vs,h=>by
  obtain⟨v,r,rfl,h1,h2⟩:=h
  obtain⟨qs,rfl,e2,e3⟩:=QM h2
  have h1':=h1
  obtain⟨a,ws,rfl,hn,hr⟩:=h1
  have:=Qg hr
  subst this
  refine⟨(a,ns)::qs,rfl,by rw[ZtP,e2],fun t ht=>?_⟩
  rcases ZtN.mp ht with rfl|ht
  ·exact⟨hn.sqT,h1'⟩
  ·exact e3 t ht
theorem ZeL {S:Addr->Prop}:∀{qs:List PL2},(∀t∈qs,Rep K H S (Jh t.2) (V.ref t.1))->Reps K H S ((qs.map (·.2)).map Jh) (qs.map fun t=>V.ref t.1)
 |[],_=>rfl
 |t::qs,h=>⟨_,_,rfl,h t (ZuB ..),ZeL fun q hq=>h q (Zui _ hq)⟩
theorem ZhF (ha:DAA K EX Γ Γ' ta fa):DE K EX Γ Γ' .F (tCB (ZeP K) ta) (fun ρ=>(fa ρ).bind Zde):=fun B H0 H σ ρ F R Q A d=>by
 refine ha B H0 H σ ρ F R _ A (d.bind.imp (fun xs _ d vs H1 F1 s1 f1 p1 A1=>?_) fun e q=>q)
 unfold Zde at d
 split at d
 ·rename_i hex
  have hs:=hex.choose_spec
  generalize hex.choose=ts at d hs
  obtain⟨rfl,hne,hl⟩:=hs
  obtain⟨h1,h2,d⟩:=Dn.newF d
  obtain⟨v,rfl,a,ws,rfl,hn,hr⟩:=VF p1
  obtain⟨qs,rfl,rfl,e3⟩:=QM hr
  refine⟨a,qs,rfl,Vr (S:=fun _=>True) hn,fun t ht=>⟨(e3 t ht).1,hne _ (List.mem_map_of_mem ht)⟩,by simpa using hl,fun l hz zs hp hup=>?_⟩
  have e:ZdP (qs.map (·.2))=zs.map (·.2):=ZcJ (ZbU _) hup ((JE _).trans (hp.map (·.2)).symm)
  have pr:=ZeL (K:=K) (H:=H1) (S:=fun _=>True) (qs:=zs) fun t ht=>(e3 t (hp.mem_iff.mp ht)).2
  rw[<- e] at pr
  exact d _ _ (s1.trans (Z7.new hz)) (Res.newP s1 f1 pr h1 A1 hz)
 ·exact d.elim
end
def Zex (h:Heap) (d:Addr) (es:Array DictEntry) (ep:Nat):Prop:=∃o,h.get? d=some o/\o.ExactDict/\o.data=.dict es ep
theorem Zex.at {h h':Heap}{d:Addr}{es:Array DictEntry}{ep:Nat} (x:Zex h d es ep) (k:∀o,h.get? d=some o->h'.get? d=some o):Zex h' d es ep:=by
 obtain⟨o,e,r⟩:=x
 exact⟨o,k o e,r⟩
section
variable {prog:Program}{w:World}{A:Around}{E:Value->Shared->Prop}{s:Shared}{d it:Addr}{es:Array DictEntry}{ep:Nat}
theorem Zex.ty (x:Zex s.heap d es ep):s.TypeIs (.ref d) "dict":=by
 obtain⟨o,e,r,_⟩:=x
 exact⟨o,e,r.1⟩
theorem ZgW {Q:Value->Shared->Prop} (nm:(d==sysModules)=false) (x:Zex s.heap d es ep)
  (q:Q (.ref s.heap.objs.size) { s with heap:=s.heap.push { cls:=.type "dict_keyiterator",data:=.fields #[.ref d,.int 0 0,.int es.size 0,.int ep 0] } }):wpAny (model prog w) A (pyIter (.ref d)) Q E s:=by
 have ty:=x.ty
 obtain⟨o,e1,e2,e3⟩:=x
 refine wpAny_pyIter_slot ty F.slot_dict_iter (wpAny_call_entry F.slot_dict_iter ty F.entry_dict_iter (by
  unfold Builtin.«dict.__iter__»
  refine wpAny_bind (by
   unfold Builtin.Dict.dictSlotNone
   refine wpAny_bind (wpAny_notOrdered_dict ty (by
    show wpAny _ _ (pure (Value.ref d)) _ _ s
    refine wpAny_pure (by
     show wpAny _ _ (Builtin.Dict.showsAll d >>= _) _ _ s
     unfold Builtin.Dict.showsAll
     rw[if_neg (by rw[nm];exact Bool.false_ne_true)]
     refine wpAny_bind (wpAny_pure (wpAny_bind (wpAny_dictEntries e1 e3 (wpAny_bind (wpAny_dictEpoch e1 e3 (wpAny_bind (wpAny_newObj_type (wpAny_pure ⟨_,rfl, "dict_keyiterator",_,⟨_,Heap.get?_push_size _ rfl,rfl⟩,F.slot_dict_keyiterator_next.lookup, ?_⟩))))))))
     simpa[rawInt] using q))))) (F.args_dict_iter_1 _))
theorem ZgX {i:Nat}{Q:Option Value->Shared->Prop} (hi:s.heap.IsKeyIter it d i es.size ep) (x:Zex s.heap d es ep) (hx:i<es.size)
  (q:∀h',h'.IsKeyIter it d (i+1) es.size ep->Heap.SameBut it s.heap h'->Q (some es[i].key) { s with heap:=h' }):wpAny (model prog w) A (pyNext (.ref it)) Q E s:=by
 have ty:=hi.typeIs
 obtain⟨o,e1,e2,e3⟩:=id hi
 obtain⟨u,u1,u2,u3⟩:=x
 unfold pyNext
 refine wpAny_bind (wpAny_attempt (wpAny_callSpecial?_slot (name:=Str.ofString "__next__") ty F.slot_dict_keyiterator_next (wpAny_call_entry F.slot_dict_keyiterator_next ty F.entry_dict_keyiterator_next (by
  refine wpAny_bind (wpAny_pure (wpAny_bind (wpAny_bind (by
   first
    |refine wpAny_bind (wpAny_typeNameOfWhole_keyiter ty (wpAny_pure (wpAny_bind (wpAny_fieldsOf e1 e3 ?_))))
    |refine wpAny_bind (wpAny_typeNameOf_keyiter ty (wpAny_pure (wpAny_bind (wpAny_fieldsOf e1 e3 ?_))))
   have n1:Builtin.Dict_items.ownsTuple "dict_keyiterator"=false:=by decide
   simp only[n1,Bool.false_eq_true,if_false]
   show wpAny _ _ (if (Value.ref d==Value.none)=true then _ else _) _ _ s
   rw[if_neg (show ¬((Value.ref d==Value.none)=true) from Bool.false_ne_true)]
   refine wpAny_bind (wpAny_pure (wpAny_bind (wpAny_dictEntries u1 u3 ?_)))
   rw[if_neg (by simp)]
   refine wpAny_bind (wpAny_pure (wpAny_bind (wpAny_dictEpoch u1 u3 ?_)))
   rw[if_neg (by simp)]
   refine wpAny_pure ?_
   simp only[show ¬((i:Int)<0) from by omega,if_false,ZtZ,ZuR hx]
   have hit':(s.heap.update it (Obj.mapFields (·.setIfInBounds 1 (rawInt ((i:Int)+1))))).IsKeyIter it d (i+1) es.size ep:=⟨_,Heap.get?_update_self _ e1 (Obj.isFreed_of_fields (Obj.data_mapFields e3 _)),(Obj.cls_mapFields ..).trans e2,by rw[Obj.data_mapFields e3];simp[rawInt]⟩
   refine wpAny_bind (by
    first
     |refine wpAny_bind (wpAny_typeNameOfWhole_keyiter ty (wpAny_pure (wpAny_bind (wpAny_isOneOf_keyiter ty ?_))))
     |refine wpAny_bind (wpAny_typeNameOf_keyiter ty (wpAny_pure (wpAny_bind (wpAny_isOneOf_keyiter ty ?_))))
    show wpAny _ _ (setField (.ref it) 1 (rawInt ((i:Int)+1)) >>= _) _ _ s
    refine wpAny_bind (wpAny_setField e1 e3 (by simp) (wpAny_bind (wpAny_holding (wpAny_bind (wpAny_isOneOf_keyiter (s:={ s with heap:=s.heap.update it (Obj.mapFields (·.setIfInBounds 1 (rawInt ((i:Int)+1)))) }) hit'.typeIs (by
     show wpAny _ _ (pure es[i].key) _ _ _
     exact wpAny_pure (wpAny_pure ⟨_,rfl,wpAny_pure (q _ hit' (Heap.SameBut.update ..))⟩))))))))))))) (F.args_dict_keyiterator_next_1 _))))
theorem ZiW {Q:Option Value->Shared->Prop} (hh:A.handled=none) (hi:s.heap.IsKeyIter it d es.size es.size ep) (x:Zex s.heap d es ep)
  (q:∀h',Heap.ExtBut it s.heap h'->Q none { s with heap:=h' }):wpAny (model prog w) A (pyNext (.ref it)) Q E s:=by
 have ty:=hi.typeIs
 obtain⟨o,e1,e2,e3⟩:=id hi
 obtain⟨u,u1,u2,u3⟩:=x
 unfold pyNext
 refine wpAny_bind (wpAny_attempt (wpAny_callSpecial?_slot (name:=Str.ofString "__next__") ty F.slot_dict_keyiterator_next (wpAny_call_entry F.slot_dict_keyiterator_next ty F.entry_dict_keyiterator_next (by
  refine wpAny_bind (wpAny_pure (wpAny_bind (wpAny_bind (by
   first
    |refine wpAny_bind (wpAny_typeNameOfWhole_keyiter ty (wpAny_pure (wpAny_bind (wpAny_fieldsOf e1 e3 ?_))))
    |refine wpAny_bind (wpAny_typeNameOf_keyiter ty (wpAny_pure (wpAny_bind (wpAny_fieldsOf e1 e3 ?_))))
   have n1:Builtin.Dict_items.ownsTuple "dict_keyiterator"=false:=by decide
   simp only[n1,Bool.false_eq_true,if_false]
   show wpAny _ _ (if (Value.ref d==Value.none)=true then _ else _) _ _ s
   rw[if_neg (show ¬((Value.ref d==Value.none)=true) from Bool.false_ne_true)]
   refine wpAny_bind (wpAny_pure (wpAny_bind (wpAny_dictEntries u1 u3 ?_)))
   rw[if_neg (by simp)]
   refine wpAny_bind (wpAny_pure (wpAny_bind (wpAny_dictEpoch u1 u3 ?_)))
   rw[if_neg (by simp)]
   refine wpAny_pure ?_
   simp only[show ¬((es.size:Int)<0) from by omega,if_false,ZtZ,Zvf (ZtE es.size)]
   refine wpAny_bind (by
    first
     |refine wpAny_bind (wpAny_typeNameOfWhole_keyiter ty (wpAny_pure ?_))
     |refine wpAny_bind (wpAny_typeNameOf_keyiter ty (wpAny_pure ?_))
    show wpAny _ _ (setField (.ref it) 0 .none >>= _) _ _ s
    refine wpAny_bind (wpAny_setField e1 e3 (by simp) ?_)
    show wpAny _ _ (newExc (.type "StopIteration") [] >>= _) _ _ _
    refine wpAny_bind ?_
    simp only[newExc,newTuple]
    refine wpAny_bind (wpAny_newObj_type (wpAny_bind (m:=firstArgMember _ _) (wpAny_of_eq (a:=Value.none) (by first|rfl|(simp only[firstArgMember];rfl)) ?_)) (by size_fits))
    refine wpAny_newObj_type ?_ (by size_fits)
    simp only[raiseNew]
    refine wpAny_bind (wpAny_handled ?_)
    rw[show A.in1.handled=none from hh]
    refine wpAny_bind (wpAny_pure (wpAny_throw ?_));refine wpAny_bind (wpAny_isInstance (T := "StopIteration") (b:=true) ⟨_,Heap.get?_push_size _ rfl,rfl⟩ isSubtype_stop ?_);exact wpAny_pure (q _ (((Heap.SameBut.update ..).extBut.push _).push _)))))))) (F.args_dict_keyiterator_next_1 _))))
theorem Ze6 (hh:A.handled=none) (I:Addr) (ne:d≠I):Walks prog w A I [I,d] [I] es.size (fun i v=>(es.map (·.key))[i]?=some v) (fun i h=>h.IsKeyIter I d i es.size ep/\Zex h d es ep) where
 sub b hb:=by simp at hb;simp[hb]
 frame _ _ _ st k:=⟨st.1.at fun o e=>k I (by simp) o e,st.2.at fun o e=>k d (by simp) o e⟩
 item i s Q E hi st q:=ZgX st.1 st.2 hi fun h' st' sb=>q _ h' s.toks (by simp[hi]) ⟨st',st.2.at fun o e=>(sb.2 d ne).trans e⟩ fun b o hb e=>(sb.2 b (fun z=>hb (by simp[z]))).trans e
 done s Q E st q:=ZiW hh st.1 st.2 fun h' eb=>q h' s.toks fun b o hb e=>eb b o (fun z=>hb (by simp[z])) e
 self _ _ _ _ st q:=wpAny_pyIter_keyiter st.1 q
theorem Zh2 {Q:Bool->Shared->Prop} (nm:(d==sysModules)=false) (x:Zex s.heap d es ep) (hz:es.size<=1000000) (q:∀b tk,Q b { s with toks:=tk }):wpAny (model prog w) A (Builtin.List.listLengthHint (.ref d)) Q E s:=by
 have ty:=x.ty
 unfold Builtin.List.listLengthHint
 refine wpAny_bind (wpAny_specialOf ty F.slot_dict_len.lookup ?_)
 generalize hid:("dict.__len__":String)=nm0
 wp_delta
 rw[show splitId nm0=some ("dict", "__len__") from by subst hid;decide +kernel]
 subst hid
 exact wpAny_bind (wpAny_isInstance (T := "dict") (b:=true) ty (by rw[isSubtype_type];kernel_rfl) (wpAny_ite_split (fun z=>absurd z (by decide)) (fun _=>wpAny_ite_split (fun _=>wpAny_bind (wpAny_typeOf ty (wpAny_pure (q _ s.toks)))) (fun z=>absurd (by decide +kernel) z))))
theorem Zem {R:Result->Shared->Prop} (hh:A.handled=none) (nm:(d==sysModules)=false) (x:Zex s.heap d es ep) (hz:es.size<=1000000) (S:Addr) (res:Value) (c0:Nat) (hS:s.heap.get? S=some { cls:=.type "list",data:=.seq #[] c0 })
  (q:∀h' tk acc c',(∀b o,b≠S->s.heap.get? b=some o->h'.get? b=some o)->h'.get? S=some { cls:=.type "list",dict:=none,data:=.seq acc c',slots:=#[] } ->
   ItemsOf (fun i v=>(es.map (·.key))[i]?=some v) acc es.size->R (.ok (.ret res)) { s with heap:=h',toks:=tk }) :
  wpAny (model prog w) A.in1 (Builtin.List.listExtendWith (.ref S) (.ref d) res) (fun fin s'=>match fin with|.done f=>R (.ok f) s'|.again c'=>c'.quiet=true/\codeAny (model prog w) A c' R s') (fun e s'=>R (.error e) s') s:=by
 have ty:=x.ty
 have dne:S≠d:=fun e=>by
  obtain⟨o,e1,e2,e3⟩:=x
  rw[e,e1] at hS
  cases hS
  cases e3
 have sne:S≠s.heap.objs.size:=ZtU (Heap.lt_size hS)
 have dI:d≠s.heap.objs.size:=by
  obtain⟨o,e1,_⟩:=x
  exact ZtU (Heap.lt_size e1)
 have W:=(Ze6 (prog:=prog) (w:=w) (A:=A.in1) (es:=es) (ep:=ep) hh s.heap.objs.size dI).toS
 have go:∀(h:Heap) (c1 tk:Nat),h.IsKeyIter s.heap.objs.size d 0 es.size ep->Zex h d es ep->(∀b o,b≠S->s.heap.get? b=some o->h.get? b=some o) ->
   h.get? S=some { cls:=.type "list",data:=.seq #[] c1 }->codeAny (model prog w) A (.builtin "list.extend.loop" ⟨[.ref S,.ref s.heap.objs.size,res],[]⟩) R { s with heap:=h,toks:=tk }:=fun h c1 tk st st2 k hS1=>by
  refine codeAny_extend_loopS W (by rw[sizeLine_eq];omega) S (by simp[sne,dne]) res es.size 0 _ #[] c1 rfl (Zub _) ⟨st,st2⟩ hS1 (ItemsOf.nil _) fun s' acc' c' hm hS' hacc=>?_
  rw[Moved.eq_with hm]
  refine q s'.heap s'.toks acc' c' (fun b o hb e=>hm.heap b o (fun z=>?_) (k b o hb e)) hS' hacc
  rcases ZtN.mp z with z|z
  ·exact hb z
  ·exact absurd (Heap.lt_size e) (by rw[ZtQ.mp z];exact Zun _)
 unfold Builtin.List.listExtendWith
 refine wpAny_bind (wpAny_typeOf ty ?_)
 simp only[show Builtin.List.listSameRef (.ref S) (.ref d)=false by simp[Builtin.List.listSameRef,dne],show (Value.type "dict" == Value.type "list")=false by decide,show (Value.type "dict" == Value.type "tuple")=false by decide,Bool.or_false,Bool.false_eq_true,if_false]
 have p1:∀(ob:Obj) b o,s.heap.get? b=some o->(s.heap.push ob).get? b=some o:=fun ob b o e=>Heap.get?_push_of_some _ e
 refine wpAny_bind (ZgW nm x (wpAny_bind (wpAny_holding (Zh2 nm (x.at fun o e=>p1 _ _ _ e) hz fun bb tk=>?_))))
 have it0:(s.heap.push { cls:=.type "dict_keyiterator",data:=.fields #[.ref d,.int 0 0,.int es.size 0,.int ep 0] }).IsKeyIter s.heap.objs.size d 0 es.size ep:=⟨_,Heap.get?_push_size _ rfl,rfl,rfl⟩
 have S1:=p1 { cls:=.type "dict_keyiterator",data:=.fields #[.ref d,.int 0 0,.int es.size 0,.int ep 0] } S _ hS
 refine wpAny_ite_split (fun _=>wpAny_bind (wpAny_rule (wpAny_bind ?_))) (fun _=>wpAny_pure ⟨plainId_quiet F.plain_extend_loop _,go _ c0 _ it0 (x.at fun o e=>p1 _ _ _ e) (fun b o _ e=>p1 _ b o e) S1⟩)
 show wpAny _ _ (updateSeq S (·.push .none) >>= fun _=>updateSeq S (·.pop)) _ _ _
 have S2:=Heap.get?_update_self (Obj.mapSeq (·.push Value.none)) S1 rfl
 have S3:=Heap.get?_update_self (Obj.mapSeq (·.pop)) S2 rfl
 have oth:∀(h:Heap) f b o,b≠S->h.get? b=some o->(h.update S f).get? b=some o:=fun h f b o hb e=>(Heap.get?_update_other _ _ (Ne.symm hb)).trans e
 exact wpAny_bind (wpAny_updateSeq S1 rfl (wpAny_updateSeq (hz:=by seq_fits) S2 rfl (wpAny_pure ⟨plainId_quiet F.plain_extend_loop _,go _ _ _ (it0.at fun o e=>oth _ _ _ _ (Ne.symm sne) (oth _ _ _ _ (Ne.symm sne) e)) (x.at fun o e=>oth _ _ _ _ (Ne.symm dne) (oth _ _ _ _ (Ne.symm dne) (p1 _ _ _ e))) (fun b o hb e=>oth _ _ _ _ hb (oth _ _ _ _ hb (p1 _ _ _ e))) S3⟩)))
theorem Zhx {Q:Value->Shared->Prop} (hh:A.handled=none) (nm:(d==sysModules)=false) (x:Zex s.heap d es ep) (hz:es.size<=1000000)
  (q:∀h' tk acc c',(∀b o,s.heap.get? b=some o->h'.get? b=some o)->h'.get? s.heap.objs.size=some { cls:=.type "list",dict:=none,data:=.seq acc c',slots:=#[] }->ItemsOf (fun i v=>(es.map (·.key))[i]?=some v) acc es.size->Q (.ref s.heap.objs.size) { s with heap:=h',toks:=tk }) :
  wpAny (model prog w) A (call (.type "list") [.ref d]) Q E s:=by
 have hS:(s.heap.push { cls:=.type "list",data:=.seq #[] }).get? s.heap.objs.size=some { cls:=.type "list",data:=.seq #[] }:=Heap.get?_push_size _ rfl
 have p1:∀b o,s.heap.get? b=some o->(s.heap.push { cls:=.type "list",data:=.seq #[] }).get? b=some o:=fun b o e=>Heap.get?_push_of_some _ e
 have dne:d≠s.heap.objs.size:=by
  obtain⟨o,e1,_⟩:=x
  exact ZtU (Heap.lt_size e1)
 refine callType_codes (Q₁:=fun ob s1=>ob=.ref s.heap.objs.size/\s1={ s with heap:=s.heap.push { cls:=.type "list",data:=.seq #[] } }) F.called_list (F.typeCall_list_1 _) F.entry_list_init (code_list_new _ ⟨rfl,rfl⟩) fun ob s1 ⟨e1,e2⟩=>?_
 subst e1 e2
 refine⟨⟨_,hS,rfl⟩,F.args_list_init_2 _ _, ?_⟩
 show wpAny _ _ (do let old <- Builtin.List.listItems (.ref s.heap.objs.size);Builtin.List.listUpdate (.ref s.heap.objs.size) (fun _=>#[]);letGo old.toList.reverse;Builtin.List.listExtendWith (.ref s.heap.objs.size) (.ref d) .none) _ _ _
 refine wpAny_bind ?_
 unfold Builtin.List.listItems
 refine wpAny_bind (wpAny_seqItems hS rfl (wpAny_pure ?_))
 show wpAny _ _ (updateSeq s.heap.objs.size (fun _=>#[]) >>= fun _=>letGo (#[]:Array Value).toList.reverse >>= fun _=>Builtin.List.listExtendWith (.ref s.heap.objs.size) (.ref d) .none) _ _ _
 have S2:=Heap.get?_update_self (Obj.mapSeq (fun _=>(#[]:Array Value))) hS rfl
 have oth:∀b o,b≠s.heap.objs.size->s.heap.get? b=some o->((s.heap.push { cls:=.type "list",data:=.seq #[] }).update s.heap.objs.size (Obj.mapSeq (fun _=>(#[]:Array Value)))).get? b=some o:=fun b o hb e=>(Heap.get?_update_other _ _ (Ne.symm hb)).trans (p1 b o e)
 refine wpAny_bind (wpAny_updateSeq hS rfl (wpAny_bind (wpAny_letGo (Zem (A:=A.in1) hh nm (x.at fun o e=>oth _ _ dne e) hz _ .none _ S2 fun h' tk acc c' k hS' hacc=>⟨rfl,q h' tk acc c' (fun b o e=>?_) hS' hacc⟩))))
 have hb:b≠s.heap.objs.size:=ZtU (Heap.lt_size e)
 exact k b o hb (oth b o hb e)
end
section
variable {X:Cx}
theorem Ziv:∀{H:Hp}{kvs:List (List Key×V)}{xs:List (List Key×Addr×Value)},KT H kvs xs->kvs.length=xs.length/\∀(i:Nat) (k:List Key) (v:V),kvs[i]?=some (k,v)->∃b u,xs[i]?=some (k,b,u)/\H b=some (.tup (k.map kV))
 |_,_,_,.nil=>⟨rfl,fun i k v h=>by simp at h⟩
 |H,_,_,.cons (a:=p) (b:=q) r rr=>by
  obtain⟨e,f⟩:=Ziv rr
  refine⟨by simp[e],fun i k v h=>?_⟩
  cases i with
  |zero =>
   simp only[Zu2,Option.some.injEq] at h
   obtain⟨r1,r2,r3⟩:=r
   subst h
   exact⟨q.2.1,q.2.2,by rw[Zu2,show k=q.1 from r1],r2⟩
  |succ i =>
   rw[Zvb] at h ⊢
   exact f i k v h
def Zib:List V->Hp->VK->Prop:=fun xs H Q=>∃p,∃kvs:List (List Key×V),xs=[.ref p]/\Rd H p (.dT kvs)/\kvs.length<=1000000 /\
  ∀l,H l=none->∀bs:List Addr,bs.length=kvs.length->(∀(i:Nat) (k:List Key) (v:V),kvs[i]?=some (k,v)->∃b,bs[i]?=some b/\H b=some (.tup (k.map kV)))->Q (.ref l) (upd H l (.lst (bs.map V.ref)))
theorem Zei {ks:List Value}{acc:Array Value} (h:ItemsOf (fun i v=>(List.toArray ks)[i]?=some v) acc ks.length):acc.toList=ks:=by
 obtain⟨h1,h2⟩:=h
 refine ZvB (by simpa using h1) fun i i1 i2=>?_
 have:=h2 i (acc.toList[i]) (by simp at i1 ⊢)
 have this:(List.toArray ks)[i]?=some acc.toList[i]:=this
 rw[List.getElem?_toArray,Zt9 i2] at this
 exact(Option.some.inj this).symm
theorem QO:∀(bs:List Addr),Jb (bs.map V.ref) (bs.map Value.ref)
 |[]=>.nil
 |b::bs=>.cons rfl (QO bs)
theorem Zeu (hc:X.calm=true):JX X (.type "list") Zib:=by
 intro pins s σ H xs us Q I r h
 obtain⟨p,kvs,rfl,hp,hz0,q⟩:=h
 obtain⟨u,rfl,rx⟩:=QE r
 cases rx
 obtain⟨z,nm,xs,rv,o,es,ep,h1,h2,h3,h4,h5⟩:=(show JA X.prog X.w H s.heap p (.dT kvs) from ZiU I.hok hp)
 obtain⟨g1,g2⟩:=Ziv rv
 have hes:es.size=xs.length:=by rw[<- ZtH,h4,ZtG]
 refine Zhx (I.ok.hd hc) nm ⟨o,h1,h2,h3⟩ (by omega) fun h' tk acc c' k e hacc=>?_
 have hk:es.map (·.key)=List.toArray (xs.map fun x=>Value.ref x.2.1):=by
  apply Zvp.mp
  rw[Zvq,h4,Zum]
  rfl
 rw[hk,hes,show xs.length=(xs.map fun x=>Value.ref x.2.1).length by simp] at hacc
 have ha:=Zei hacc
 have ea:acc=List.toArray ((xs.map (·.2.1)).map Value.ref):=by
  apply Zvp.mp
  rw[ha,Zum]
  rfl
 have I1:Inv X pins σ (upd H s.heap.objs.size (.lst ((xs.map (·.2.1)).map V.ref))) { s with heap:=h',toks:=tk }:=by
  refine I.laid (t':=tk) k (ZtE _) ⟨?_,_,c',QO _,by rw[<- ea];exact e⟩
  rw[ZtG,ZtG,<- g1];exact z
 refine⟨.ref s.heap.objs.size,_,I1,rfl,q _ (I.hok.fresh (ZtE _)) (xs.map (·.2.1)) (by simp[g1]) fun i kk v hi=>?_⟩
 obtain⟨b,u,e1,e2⟩:=g2 i kk v hi
 exact⟨b,by rw[ZtT,e1];rfl,e2⟩
end
noncomputable def Zdg (xs:List PV):Rr PV:=match xs with
 |[.box _ (.dt ks) ys]=>if ks.length=ys.length/\ks.length<=1000000 then .ok (.lst (ks.map fun k=>.tup (k.map Zdv))) else .bad
 |_=>.bad
theorem Zfh {p:Option Addr}{bs:List (List Int)}{ys:List PV} (h:ys.length=bs.length) (hz:bs.length<=1000000):Zdg [.box p (.dt (bs.map fun b=>b.map Sum.inl)) ys]=.ok (.lst (bs.map Jh)):=by
 unfold Zdg
 simp only
 rw[if_pos ⟨by rw[ZtG];omega,by rw[ZtG];exact hz⟩,Zum]
 congr 2
 refine ZuI fun b _=>?_
 simp only[Function.comp_apply,Jh,Zum]
 rfl
theorem Zar {K:W.Frag}{H:Hp}{S:Addr->Prop}:∀(k:List Key),Reps K H S (k.map Zdv) (k.map kV)
 |[]=>rfl
 |.inl i::k=>⟨_,_,rfl,rfl,Zar k⟩
 |.inr x::k=>⟨_,_,rfl,rfl,Zar k⟩
theorem U5:∀(k:List Key),PV.flats (k.map Zdv)=true
 |[]=>rfl
 |.inl i::k=>by simp only[ZtP,Zdv,PV.flats,PV.flat,U5 k,Bool.and_self]
 |.inr x::k=>by simp only[ZtP,Zdv,PV.flats,PV.flat,U5 k,Bool.and_self]
theorem Q4:∀(ks:List (List Key)),PV.flats (ks.map fun k=>.tup (k.map Zdv))=true
 |[]=>rfl
 |k::ks=>by simp only[ZtP,PV.flats,PV.flat,U5 k,Q4 ks,Bool.and_self]
theorem QN {K:W.Frag}{H:Hp}{S:Addr->Prop}:∀(ks:List (List Key)) (bs:List Addr),bs.length=ks.length->(∀(i:Nat) (k:List Key),ks[i]?=some k->∃b,bs[i]?=some b/\H b=some (.tup (k.map kV)))->Reps K H S (ks.map fun k=>.tup (k.map Zdv)) (bs.map V.ref)
 |[],[],_,_=>rfl
 |[],b::bs,h,_=>by simp at h
 |k::ks,[],h,_=>by simp at h
 |k::ks,b::bs,h,f=>by
  obtain⟨b',e1,e2⟩:=f 0 k rfl
  have e1:b=b':=by simpa using e1
  subst e1
  exact⟨_,_,rfl,⟨b,_,rfl,⟨e2,trivial⟩,Zar k⟩,QN ks bs (by simpa using h) fun i kk hi=>f (i+1) kk hi⟩
section
variable {K:W.Frag}{EX:PX->Hp->Prop}{Γ Γ':List Md}{ta:TA}{fa:List PV->Rr (List PV)}
theorem ZhH (ha:DAA K EX Γ Γ' ta fa):DE K EX Γ Γ' .F (tCB Zib ta) (fun ρ=>(fa ρ).bind Zdg):=fun B H0 H σ ρ F R Q A d=>by
 refine ha B H0 H σ ρ F R _ A (d.bind.imp (fun xs _ d vs H1 F1 s1 f1 p1 A1=>?_) fun e q=>q)
 unfold Zdg at d
 split at d
 ·rename_i p ks ys _
  split at d
  ·rename_i hc
   obtain⟨v,rfl,a,ws,u,rfl,⟨hr,_⟩,⟨_,hl,rfl⟩,_⟩:=VF p1
   refine⟨a,_,rfl,hr,by rw[Zvx];omega,fun l hz bs hb f=>?_⟩
   have hlz:(ks.zip ws).length=ks.length:=by rw[Zvx];omega
   have pr:=QN (K:=K) (H:=H1) (S:=fun _=>True) ks bs (by omega) fun i k hi=>by
    have hi':i<ks.length:=(ZtC.mp hi).1
    have hw:i<ws.length:=by omega
    exact f i k ws[i] (by rw[List.getElem?_zip_eq_some];exact⟨hi,Zt9 hw⟩)
   exact d _ _ (s1.trans (Z7.new hz)) (Res.newP s1 f1 pr (Q4 ks) A1 hz)
  ·exact d.elim
 ·exact d.elim
end
section
variable {K:W.Frag}{H:Hp}{jj:Int}
theorem Trees.partI:∀{xs:List PV}{vs:List V}{G:List Addr}{j:Nat}{y:PV},Trees K H xs vs G->xs[j]?=some y->∃v G2,vs[j]?=some v/\ZZ K H y v G2/\(∀a∈G2,a∈G) /\
  ∀(l p:Addr) (us:List V) (o:HO) (y':PV) (G3:List Addr),H l=none->H p=some (.lst us)->p∈G2->(∀a∈G3,a∈G2\/a=l)->ZZ K (upd (upd H l (.lst [.int jj])) p o) y' v G3->∃G',(∀a∈G',a∈G\/a=l)/\Trees K (upd (upd H l (.lst [.int jj])) p o) (xs.set j y') vs G'
 |[],_,_,_,_,_,e=>by simp at e
 |x::xs,_,_,0,y,h,e=>by
  obtain⟨w,r,G1,G2,rfl,h1,h2,h3,rfl⟩:=h
  simp at e;subst e
  refine⟨w,G1,rfl,h1,fun a ha=>by simp[ha],fun l p us o y' G3 hl hp hpG hs ht=>?_⟩
  have hpl:p≠l:=fun z=>by rw[z,hl] at hp;cases hp
  have hp':upd H l (.lst [.int jj]) p=some (.lst us):=by rw[Z1 hpl];exact hp
  have hlG:l ∉ G2:=fun z=>by obtain⟨vs,q⟩:=h2.alive l z;rw[hl] at q;cases q
  refine⟨G3++G2,fun a ha=>?_,w,r,G3,G2,rfl,ht,Trees.put hp' (h3 p hpG) (h2.same (Z7.new hl)),fun a ha z=>?_,rfl⟩
  ·rcases ZtD.mp ha with z|z
   ·rcases hs a z with z|z
    ·simp[z]
    ·exact .inr z
   ·simp[z]
  ·rcases hs a ha with q|q
   ·exact h3 a q z
   ·rw[q] at z;exact hlG z
 |x::xs,_,_,j+1,y,h,e=>by
  obtain⟨w,r,G1,G2,rfl,h1,h2,h3,rfl⟩:=h
  obtain⟨v,G4,e1,e2,e3,e4⟩:=Trees.partI h2 (j:=j) (by simpa using e)
  refine⟨v,G4,by simpa using e1,e2,fun a ha=>by simp[e3 a ha],fun l p us o y' G3 hl hp hpG hs ht=>?_⟩
  obtain⟨G',c2,c3⟩:=e4 l p us o y' G3 hl hp hpG hs ht
  have hpl:p≠l:=fun z=>by rw[z,hl] at hp;cases hp
  have hp':upd H l (.lst [.int jj]) p=some (.lst us):=by rw[Z1 hpl];exact hp
  have hlG:l ∉ G1:=fun z=>by obtain⟨vs,q⟩:=h1.alive l z;rw[hl] at q;cases q
  refine⟨G1++G',fun a ha=>?_,w,r,G1,G',rfl,ZZ.put hp' (fun z=>h3 p z (e3 p hpG)) (h1.same (Z7.new hl)),c3,fun a ha z=>?_,rfl⟩
  ·rcases ZtD.mp ha with z|z
   ·simp[z]
   ·rcases c2 a z with z|z
    ·simp[z]
    ·exact .inr z
  ·rcases c2 a z with q|q
   ·exact h3 a ha q
   ·rw[q] at ha;exact hlG ha
theorem ZZ.chgI:∀{cs:List Int}{x x':PV}{v:V}{G:List Addr},ZZ K H x v G->pGo (fun z=>pApp z (.lst [.int jj])) x cs=.ok x' ->
  ∃p us,AtP K H v cs (.ref p)/\H p=some (.lst us)/\us.length<sizeLine/\p∈G/\∀l,H l=none->∃G',(∀a∈G',a∈G\/a=l)/\ZZ K (upd (upd H l (.lst [.int jj])) p (.lst (us++[.ref l]))) x' v G'
 |[],x,x',v,G,h,e=>by
  have d:Dn (pApp x (.lst [.int jj])) (fun y=>y=x') (fun _=>False):=by
   have e:pApp x (.lst [.int jj])=.ok x':=by cases x<;>exact e
   rw[e];exact rfl
  obtain⟨ys,rfl,hlen,rfl⟩:=Dn.pApp d
  obtain⟨p,us,G4,rfl,hH,hu,hn,rfl⟩:=h
  refine⟨p,us,rfl,hH,by rw[hu.length];exact ZtM hlen (by decide),by simp,fun l hl=>?_⟩
  have hpl:p≠l:=fun z=>by rw[z,hl] at hH;cases hH
  have hH':upd H l (.lst [.int jj]) p=some (.lst us):=by rw[Z1 hpl];exact hH
  have hlG:l ∉ G4:=fun z=>by obtain⟨vs,q⟩:=hu.alive l z;rw[hl] at q;cases q
  refine⟨p::(G4++[l]),fun b hb=>?_,p,_,G4++[l],rfl,ZD, ?_,fun z=>?_,rfl⟩
  ·simp only[ZtN,ZtD,ZvC,or_false] at hb ⊢
   rcases hb with z|z|z
   ·exact .inl (.inl z)
   ·exact .inl (.inr z)
   ·exact .inr z
  ·refine Trees.append (Trees.put (o:=.lst (us++[.ref l])) hH' hn (hu.same (Z7.new hl))) (Trees.one (x:=.lst [.int jj]) (v:=.ref l) (F:=[l]) ⟨l,[.int jj],[],rfl, ?_,Trees.one (x:=.int jj) (v:=.int jj) (F:=[]) ⟨rfl,rfl⟩,by simp,rfl⟩) (fun a ha z=>?_)
   ·rw[Z1 (Ne.symm hpl),ZD]
   ·rw[ZtQ.mp z] at ha;exact hlG ha
  ·rcases ZtD.mp z with z|z
   ·exact hn z
   ·exact hpl (ZtQ.mp z)
 |c::cs,.lst xs,x',v,G,h,e=>by
  simp only[pGo] at e
  cases en:ixN xs.length c with
  |none=>rw[en] at e;cases e
  |some n =>
   rw[en] at e
   dsimp only at e
   cases ez:pGo (fun z=>pApp z (.lst [.int jj])) (xs.getD n .non) cs with
   |bad=>rw[ez] at e;cases e
   |exc q=>rw[ez] at e;cases e
   |ok z =>
    rw[ez] at e
    cases e
    have hnl:=(U4 en).2.1
    have hx:xs[n]?=some (xs.getD n .non):=by rw[Zt8,Zt9 hnl];rfl
    obtain⟨a,vs,G1,rfl,ha,ht,hna,rfl⟩:=h
    obtain⟨w,G2,e1,e2,e3,e4⟩:=ht.partI hx
    obtain⟨p,us,p1,p2,p3,p4,p5⟩:=ZZ.chgI e2 ez
    refine⟨p,us,⟨a,vs,w,rfl,.inl (SqL.of ha),by unfold atI;rw[ht.length,en];exact e1,p1⟩,p2,p3,by simp[e3 p p4],fun l hl=>?_⟩
    obtain⟨G3,p6,p7⟩:=p5 l hl
    obtain⟨G',c2,c3⟩:=e4 l p us _ _ G3 hl p2 p4 p6 p7
    have hal:a≠l:=fun z=>by rw[z,hl] at ha;cases ha
    refine⟨a::G',fun b hb=>?_,a,vs,G',rfl, ?_,c3,fun z=>?_,rfl⟩
    ·rcases ZtN.mp hb with rfl|hb
     ·simp
     ·rcases c2 b hb with z|z
      ·simp[z]
      ·exact .inr z
    ·rw[Z1 (fun z=>hna (by rw[z];exact e3 p p4)),Z1 hal];exact ha
    ·rcases c2 a z with z|z
     ·exact hna z
     ·exact hal z
 |c::cs,.tup xs,x',v,G,h,e=>by
  simp only[pGo] at e
  cases en:ixN xs.length c with
  |none=>rw[en] at e;cases e
  |some n =>
   rw[en] at e
   dsimp only at e
   cases ez:pGo (fun z=>pApp z (.lst [.int jj])) (xs.getD n .non) cs with
   |bad=>rw[ez] at e;cases e
   |exc q=>rw[ez] at e;cases e
   |ok z =>
    rw[ez] at e
    cases e
    have hnl:=(U4 en).2.1
    have hx:xs[n]?=some (xs.getD n .non):=by rw[Zt8,Zt9 hnl];rfl
    obtain⟨a,vs,rfl,ha,ht⟩:=h
    obtain⟨w,G2,e1,e2,e3,e4⟩:=ht.partI hx
    obtain⟨p,us,p1,p2,p3,p4,p5⟩:=ZZ.chgI e2 ez
    refine⟨p,us,⟨a,vs,w,rfl,.inr ha.sqT,by unfold atI;rw[ht.length,en];exact e1,p1⟩,p2,p3,e3 p p4,fun l hl=>?_⟩
    obtain⟨G3,p6,p7⟩:=p5 l hl
    obtain⟨G',c2,c3⟩:=e4 l p us _ _ G3 hl p2 p4 p6 p7
    have hpl:p≠l:=fun z=>by rw[z,hl] at p2;cases p2
    exact⟨G',c2,a,vs,rfl,SqT.put (by rw[Z1 hpl];exact p2) ((Z7.new hl).im ha),c3⟩
 |_::_,.non,_,_,_,_,e=>by cases e
 |_::_,.bl _,_,_,_,_,e=>by cases e
 |_::_,.int _,_,_,_,_,e=>by cases e
 |_::_,.str _,_,_,_,_,e=>by cases e
 |_::_,.exc _,_,_,_,_,e=>by cases e
 |_::_,.exa _ _,_,_,_,_,e=>by cases e
 |_::_,.box _ _ _,_,_,_,_,e=>by cases e
variable {Γ Γ1 Γ2:List Md}{i:Nat}{tp:TE}{ix:List PV->Rr (List Int)}{EX:PX->Hp->Prop}{k:Kd}{jj:Int}
theorem Zcq (hm:Γ[i]?=some .O) (hp:DPa K Γ i tp ix):DS K EX Γ ⟨Γ,Γ1,Γ2,k⟩ (ZdO (tBM K "list" Zas tp (Qb (ZlD (Qb (tC (.int jj)) Zey)) Zey)))
  (fun ρ=>(ix ρ).thenS fun cs=>(pGo (fun z=>pApp z (.lst [.int jj])) (gv i ρ) cs).thenS fun w=>.next (ρ.set i w)):=fun B H0 H σ ρ F D A d=>by
 have d1:=d.thenS
 cases ec:ix ρ with
 |bad=>rw[ec] at d1;exact d1.elim
 |exc q=>exact(hp.1 ρ q ec).elim
 |ok cs =>
  rw[ec] at d1
  have d2:=DnS.thenS d1
  obtain⟨v,h1,h2⟩:=A.getO hm
  cases ep:pGo (fun z=>pApp z (.lst [.int jj])) (gv i ρ) cs with
  |bad=>rw[ep] at d2;exact d2.elim
  |exc q=>exact(Ub (fun x e=>QV _ _ e) _ _ _ ep).elim
  |ok w =>
   rw[ep] at d2
   obtain⟨p,us,p1,p2,p3,c1,c2⟩:=ZZ.chgI h2 ep
   refine hp.2 B H0 H σ ρ F [] cs v (.ref p) _ A ec h1 p1 ⟨.inl ⟨rfl,_,SqL.of p2⟩,(by decide:1<=sizeLine),fun l hl=>?_⟩
   obtain⟨G',c3,c4⟩:=c2 l hl
   have hpl:p≠l:=fun z=>by rw[z,hl] at p2;cases p2
   refine⟨p,us,.ref l,rfl,rfl,by rw[Z1 hpl];exact p2,p3, ?_⟩
   exact d2 σ _ (Vo F i G') (V3 (Z7.new hl) (fun _ _ h=>h) c1 fun b hb=>(c3 b hb).elim (fun z=>.inr ⟨i,z⟩) (fun z=>.inl (by rw[z];exact hl)))
    (Ag.chg (G:=[l]) (A.new (xs:=[.int jj]) hl) hm c1 (fun b hb=>(c3 b hb).imp_right fun z=>by rw[z];simp) (by simp) ⟨_,h1,c4⟩)
noncomputable def QT (xs:List PV):Rr PV:=match xs with
 |[.lst ys]=>if PV.flats ys=true then newF ys else if ys.length<=1000000 then .ok (.box none .jk []) else .bad
 |[.tup ys]=>newF ys
 |_=>.bad
variable {ta:TA}{fa:List PV->Rr (List PV)}{Γ':List Md}
theorem ZhG (ha:DAA K EX Γ Γ' ta fa):DE K EX Γ Γ' .F (tCB (fun xs H Q=>∃p ys,xs=[.ref p]/\(SqL K H p ys\/SqT K H p ys)/\∀l,H l=none->Q (.ref l) (upd H l (.lst ys))) ta) (fun ρ=>(fa ρ).bind QT):=fun B H0 H σ ρ F R Q A d=>by
 refine ha B H0 H σ ρ F R _ A (d.bind.imp (fun xs _ d vs H1 F1 s1 f1 p1 A1=>?_) fun e q=>q)
 unfold QT at d
 split at d
 ·split at d
  ·obtain⟨h1,h2,d⟩:=Dn.newF d
   obtain⟨v,rfl,a,ws,rfl,hn,hr⟩:=VF p1
   exact⟨a,ws,rfl,.inl (Vr (S:=fun _=>True) hn),fun l hl=>d _ _ (s1.trans (Z7.new hl)) (Res.newP s1 f1 hr h1 A1 hl)⟩
  ·split at d
   ·obtain⟨v,rfl,a,ws,rfl,hn,hr⟩:=VF p1
    exact⟨a,ws,rfl,.inl (Vr (S:=fun _=>True) hn),fun l hl=>d _ _ (s1.trans (Z7.new hl)) (Res.newBox (S:=fun _=>True) (vs:=[]) s1 f1 ⟨rfl,ws,rfl⟩ rfl rfl A1 hl)⟩
   ·exact d.elim
 ·obtain⟨h1,h2,d⟩:=Dn.newF d
  obtain⟨v,rfl,a,ws,rfl,hn,hr⟩:=VF p1
  exact⟨a,ws,rfl,.inr hn.sqT,fun l hl=>d _ _ (s1.trans (Z7.new hl)) (Res.newP s1 f1 hr h1 A1 hl)⟩
 ·exact d.elim
theorem Trees.setF:∀{xs:List PV}{vs:List V}{G G1:List Addr}{j:Nat}{y:PV}{w:V},Trees K H xs vs G->ZZ K H y w G1->(∀a∈G,a ∉ G1)->∃G',(∀a∈G',a∈G\/a∈G1)/\Trees K H (xs.set j y) (vs.set j w) G'
 |[],_,_,_,_,_,_,h,_,_=>⟨[],by simp,by rw[h.1];exact⟨rfl,rfl⟩⟩
 |x::xs,_,_,G3,0,y,w,h,h',hd=>by
  obtain⟨v,r,G1,G2,rfl,h1,h2,h3,rfl⟩:=h
  refine⟨G3++G2,fun a ha=>?_,w,r,G3,G2,rfl,h',h2,fun a ha z=>hd a (by simp[z]) ha,rfl⟩
  rcases ZtD.mp ha with z|z
  ·exact .inr z
  ·simp[z]
 |x::xs,_,_,G3,j+1,y,w,h,h',hd=>by
  obtain⟨v,r,G1,G2,rfl,h1,h2,h3,rfl⟩:=h
  obtain⟨G',h4,h5⟩:=Trees.setF (j:=j) h2 h' fun a ha=>hd a (by simp[ha])
  refine⟨G1++G',fun a ha=>?_,v,r.set j w,G1,G',rfl,h1,h5,fun a ha z=>?_,rfl⟩
  ·rcases ZtD.mp ha with z|z
   ·simp[z]
   ·rcases h4 a z with q|q
    ·simp[q]
    ·exact .inr q
  ·rcases h4 a z with q|q
   ·exact h3 a ha q
   ·exact hd a (by simp[ha]) q
variable {te ti:TE}{f fi:List PV->Rr PV}{Γ3:List Md}
theorem ZfR {i:Nat} (hm:Γ2[i]?=some .O) (he:DE K EX Γ Γ2 .F te f) (hi:DE K EX Γ2 Γ2 .A ti fi) :
  DS K EX Γ ⟨Γ2,Γ1,Γ3,k⟩ (ZgO te (Zml (ZaW i) ti ZgY)) (fun ρ=>(f ρ).thenS fun y=>(fi ρ).thenS fun j=>(pSet (gv i ρ) j y).thenS fun z=>.next (ρ.set i z)):=fun B H0 H σ ρ F D A d=>by
 refine he B H0 H σ ρ F [] _ A (d.thenS.imp (fun y _ d w H1 s1 r1=>?_) fun e q=>q)
 obtain⟨F1,f1,G1,y1,y2,A1⟩:=r1
 obtain⟨v,h1,h2⟩:=A1.getO hm
 refine⟨v,h1,hi B H0 H1 σ ρ F1 _ _ A1 (d.thenS.imp (fun j _ d jv H2 s2 r2=>?_) fun e q=>q)⟩
 obtain⟨F2,f2,p2,A2⟩:=r2
 obtain⟨xs,jj,n,e1,rfl,e2,d⟩:=Dn.pSet d.thenS
 obtain⟨v',h1',h2'⟩:=A2.getO hm
 rw[h1] at h1';cases h1'
 rw[show ρ.getD i .non=.lst xs from e1] at h2'
 obtain⟨a,vs,G,rfl,hH,ht,hn,hF⟩:=h2'
 cases p2
 refine⟨a,vs,jj,n,rfl,rfl,hH,by rw[ht.length];exact e2, ?_⟩
 have haF:a∈F2 i:=by rw[hF];simp
 have dj:∀b∈G,b ∉ G1:=fun b hb z=>A2.disjR i b (by rw[hF];simp[hb]) (ZtF _ z)
 have na:a ∉ G1:=fun z=>A2.disjR i a haF (ZtF _ z)
 obtain⟨G',g1,g2⟩:=Trees.setF (j:=n) ht (y1.same s2) dj
 have hna:a ∉ G':=fun z=>(g1 a z).elim hn na
 have hsub:∀b∈a::G',b∈F2 i\/b∈G1:=fun b hb=>by
  rw[hF]
  rcases ZtN.mp hb with rfl|hb
  ·simp
  ·rcases g1 b hb with z|z
   ·simp[z]
   ·exact .inr z
 refine d σ _ (Vo F2 i (a::G')) (V3 (s1.trans s2) (fun j b hb=>f1 j b (f2 j b hb)) haF fun b hb=>?_) (Ag.chg (G:=G1) (R:=[]) A2 hm haF hsub (by simp) ?_)
 ·rcases hsub b hb with z|z
  ·exact .inr ⟨i,f1 i b (f2 i b z)⟩
  ·exact(y2 b z).2
 ·exact⟨_,h1,a,_,G',rfl,ZD,g2.put hH hna,hna,rfl⟩
theorem ZhI (he:DE K EX (Γ.map frz) (Γ.map frz) .F te f):DE K EX Γ Γ .F te f:=fun B H0 H σ ρ F R Q A d=>by
 refine he B H0 H σ ρ _ R Q A.freezeAll (d.imp (fun x _ q v H' s r=>q v H' s ?_) fun e q=>q)
 obtain⟨F1,f1,G,t1,o1,_⟩:=r
 have fr:∀a∈G,H a=none:=fun a ha=>by
  rcases (o1 a ha).2 with q|⟨j,q⟩
  ·exact q
  ·simp at q
 exact⟨F,fun _ _ h=>h,G,t1,fun a ha=>⟨(o1 a ha).1,.inl (fr a ha)⟩,A.more s fr t1.alive⟩
end
end L2
namespace My
open L2
noncomputable def tab (n:Nat) (f:Nat->Int):List Int:=(List.range n).map f
theorem Jj (n:Nat) (f:Nat->Int):(tab n f).length=n:=by simp[tab]
theorem UZ {n:Nat}{f:Nat->Int}{x:Nat} (h:x<n):(tab n f).getD x 0=f x:=by
 rw[Zt8,tab,ZtT,Zvv h];rfl
theorem Zam {n:Nat}{f:Nat->Int}{l:List Int} (hl:l.length=n) (h:∀x,x<n->l.getD x 0=f x):l=tab n f:=by
 apply ZvB
 ·rw[hl,Jj]
 ·intro i h1 h2
  have:=h i (by omega)
  rw[Zt8,Zt9 h1] at this
  simp only[tab,List.getElem_map,List.getElem_range]
  exact this
theorem getD_set {l:List Int}{j x:Nat}{v:Int} (h:j<l.length):(l.set j v).getD x 0=if x=j then v else l.getD x 0:=by
 rw[Zt8,Zt8]
 by_cases e:x=j
 ·subst e;rw[ZtX h,if_pos rfl];rfl
 ·rw[Zuj (Ne.symm e),if_neg e]
theorem Ze9 {n:Nat}{f:Nat->Int}{j:Nat}{v:Int} (h:j<n):(tab n f).set j v=tab n fun x=>if x=j then v else f x:=by
 refine Zam (by rw[ZuM,Jj]) fun x hx=>?_
 rw[getD_set (by rw[Jj];exact h)]
 by_cases e:x=j
 ·rw[if_pos e,if_pos e]
 ·rw[if_neg e,if_neg e,UZ hx]
theorem Qa {n:Nat}{f g:Nat->Int} (h:∀x,x<n->f x=g x):tab n f=tab n g:=Zam (Jj _ _) fun x hx=>by rw[UZ hx,h x hx]
theorem Zb2 {l:List Int}{x:Nat} (h:x<l.length):l.getD x 0∈l:=by
 rw[Zt8,Zt9 h];exact ZuU h
theorem UN:∀{l:List Int}{j:Nat}{v:Int},j<l.length->(l.set j v).sum=l.sum-l.getD j 0+v
 |a::l,0,v,_=>by simp;omega
 |a::l,j+1,v,h=>by
  have:=UN (l:=l) (j:=j) (v:=v) (by simpa using h)
  simp only[Zv5,Zvd,List.getD_cons_succ,this];omega
theorem Qd:∀(ns:List Int) (c:Int),(ns.map fun v=>v+c).sum=ns.sum+ns.length*c
 |[],c=>by simp
 |a::l,c=>by
  simp only[ZtP,Zvd,Zua]
  rw[Qd l c,Int.natCast_add,Int.add_mul];omega
theorem Zjq {n a b:Int} (ha:0<=a) (ha':a<n) (hb:0<=b) (hb':b<n):(a-b)%n=if b<=a then a-b else a-b+n:=by
 by_cases h:b<=a
 ·rw[if_pos h,Zu1 (by omega) (by omega)]
 ·rw[if_neg h,<- Int.add_emod_right,Zu1 (by omega) (by omega)]
theorem Zaz {n a b:Int} (ha:0<=a) (ha':a<n) (hb:0<=b) (hb':b<n):(a+b)%n=if a+b<n then a+b else a+b-n:=by
 by_cases h:a+b<n
 ·rw[if_pos h,Zu1 (by omega) (by omega)]
 ·rw[if_neg h,<- Int.sub_emod_right,Zu1 (by omega) (by omega)]
structure ZjT (ns:List Int):Prop where
 lo:2<=ns.length
 hi:ns.length<=24
 nn:∀x∈ns,0<=x
 sm:ns.sum<=10^60
theorem sum_nn:∀{l:List Int},(∀x∈l,0<=x)->0<=l.sum
 |[],_=>by simp
 |a::l,h=>by
  have:=sum_nn (l:=l) fun x hx=>h x (by simp[hx])
  have:=h a (by simp)
  simp only[Zvd];omega
noncomputable def ZiP (ns:List Int) (p:Int) (x:Nat):Int:=(if (x:Int)=p then 0 else ns.getD x 0)+ns.getD p.toNat 0/ns.length
noncomputable def ZjW (n:Int) (p:Int) (i:Int) (x:Nat):Int:=if 1<=((x:Int)-p)%n/\((x:Int)-p)%n<=i then 1 else 0
noncomputable def ZbM (ns:List Int) (p:Int) (i:Int) (x:Nat):Int:=ZiP ns p x+ZjW ns.length p i x
theorem ZiL (n p i:Int) (x:Nat):0<=ZjW n p i x:=by unfold ZjW;split<;>omega
theorem Zan {n p i:Int}{x:Nat} (h:1<=((x:Int)-p)%n/\((x:Int)-p)%n<=i):ZjW n p i x=1:=if_pos h
theorem Zao {n p i:Int}{x:Nat} (h:¬(1<=((x:Int)-p)%n/\((x:Int)-p)%n<=i)):ZjW n p i x=0:=if_neg h
theorem Zkw {ns:List Int}{p:Int}{x:Nat} (h:(x:Int)=p):ZiP ns p x=ns.getD p.toNat 0/ns.length:=by unfold ZiP;rw[if_pos h];omega
theorem ZiO {ns:List Int}{p:Int}{x:Nat} (h:(x:Int)≠p):ZiP ns p x=ns.getD x 0+ns.getD p.toNat 0/ns.length:=by unfold ZiP;rw[if_neg h]
noncomputable def UP (ns:List Int) (p:Int):List Int:=tab ns.length (ZbM ns p (ns.getD p.toNat 0%ns.length))
noncomputable def Zm8 (ns:List Int) (p:Int):Int:=(p+ns.getD p.toNat 0%ns.length)%ns.length
theorem Qf (ns:List Int) (p:Int):(UP ns p).length=ns.length:=Jj _ _
section
variable {ns:List Int}{p:Int}
theorem ZcS (h0:0<=p) (h1:p<ns.length):(ns.map fun v=>v+ns.getD p.toNat 0/ns.length).set p.toNat (ns.getD p.toNat 0/ns.length)=tab ns.length (ZbM ns p 0):=by
 refine Zam (by simp) fun x hx=>?_
 rw[getD_set (by simp;omega)]
 unfold ZbM
 rw[Zao (by omega)]
 by_cases e:x=p.toNat
 ·rw[if_pos e,Zkw (by omega)];omega
 ·rw[if_neg e,ZiO (by omega)]
  simp[Zt8,Zt9 hx]
theorem ZcT (h0:0<=p) (h1:p<ns.length) {i:Nat} (hi:(i:Int)+1<ns.length) :
  (tab ns.length (ZbM ns p i)).set ((p+(i+1))%ns.length).toNat (ZbM ns p i ((p+(i+1))%ns.length).toNat+1)=tab ns.length (ZbM ns p ((i+1:Nat):Int)):=by
 have m1:=Zaz h0 h1 (show (0:Int)<=(i:Int)+1 by omega) hi
 have hlt:((p+((i:Int)+1))%ns.length).toNat<ns.length:=by
  rw[m1];split<;>omega
 rw[Ze9 hlt]
 refine Qa fun x hx=>?_
 have m2:=Zjq (n:=ns.length) (show (0:Int)<=(x:Int) by omega) (by omega) h0 h1
 by_cases e:x=((p+((i:Int)+1))%ns.length).toNat
 ·rw[if_pos e,<- e]
  unfold ZbM
  have hd:((x:Int)-p)%ns.length=i+1:=by
   rw[m2]
   rw[m1] at e
   split at e<;>split<;>omega
  rw[Zao (by omega),Zan (by omega)];omega
 ·rw[if_neg e]
  unfold ZbM
  have hd:((x:Int)-p)%ns.length≠i+1:=by
   intro z
   apply e
   rw[m2] at z
   rw[m1]
   split at z<;>split<;>omega
  by_cases q:1<=((x:Int)-p)%ns.length/\((x:Int)-p)%ns.length<=i
  ·rw[Zan q,Zan (by omega)]
  ·rw[Zao q,Zao (by omega)]
theorem ZaZ (h0:0<=p) (h1:p<ns.length):∀i:Nat,(i:Int)<ns.length->(tab ns.length (ZbM ns p i)).sum=ns.sum+ns.length*(ns.getD p.toNat 0/ns.length)-ns.getD p.toNat 0+i
 |0,_=>by
  have:=ZcS h0 h1
  rw[Int.natCast_zero,<- this,UN (by simp;omega)]
  have e:=Qd ns (ns.getD p.toNat 0/ns.length)
  rw[e]
  have e2:(ns.map fun v=>v+ns.getD p.toNat 0/ns.length).getD p.toNat 0=ns.getD p.toNat 0+ns.getD p.toNat 0/ns.length:=by
   have hx:p.toNat<ns.length:=by omega
   rw[Zt8,ZtT,Zt9 hx]
   simp[hx]
  rw[e2];omega
 |i+1,hi=>by
  have ih:=ZaZ h0 h1 i (by omega)
  have m1:=Zaz h0 h1 (show (0:Int)<=(i:Int)+1 by omega) (by omega)
  have hlt:((p+((i:Int)+1))%ns.length).toNat<ns.length:=by rw[m1];split<;>omega
  rw[<- ZcT h0 h1 (by omega),UN (by rw[Jj];exact hlt),ih,UZ hlt];omega
theorem ZgQ (h0:0<=p) (h1:p<ns.length) (hs:0<=ns.getD p.toNat 0):(UP ns p).sum=ns.sum:=by
 have b1:=Zup (ns.getD p.toNat 0) (show (ns.length:Int)≠0 by omega)
 have b2:=Zud (ns.getD p.toNat 0) (show (0:Int)<ns.length by omega)
 have:=ZaZ h0 h1 (ns.getD p.toNat 0%ns.length).toNat (by omega)
 rw[Zu0 b1] at this
 have e:=Int.mul_ediv_add_emod (ns.getD p.toNat 0) ns.length
 unfold UP
 omega
theorem ZiM (hn:∀x∈ns,0<=x) (i:Int) (x:Nat) (hx:x<ns.length):0<=ZbM ns p i x:=by
 have h1:=hn _ (Zb2 hx)
 have h2:0<=ns.getD p.toNat 0:=by
  by_cases hp:p.toNat<ns.length
  ·exact hn _ (Zb2 hp)
  ·rw[Zt8,Zuk (by omega)];exact Int.le_refl _
 have h3:=Int.ediv_nonneg h2 (show (0:Int)<=ns.length by omega)
 have h4:=ZiL ns.length p i x
 unfold ZbM ZiP
 split<;>omega
end
noncomputable def run (f:Nat->Int):Nat->Nat->Nat
 |0,i=>i
 |k+1,i=>if 0<f i then run f k (i+1) else i
section
end
noncomputable def Zg9 (a:List Int×Int):List Int×Int:=(UP a.1 a.2,Zm8 a.1 a.2)
noncomputable def its {α:Type} (f:α->α):Nat->α->α
 |0,a=>a
 |n+1,a=>f (its f n a)
section
end
end My
namespace My
open PySem L2
noncomputable abbrev Zcd (a:List Int×Int):PV:=.tup [.lst (a.1.map PV.int),.int a.2]
noncomputable def Vf (ns:List Int):Bool:=decide (2<=ns.length/\ns.length<=24/\(∀x∈ns,0<=x)/\ns.sum<=10^60)
theorem Ve {ns:List Int}:Vf ns=true ↔ ZjT ns:=by
 unfold Vf
 rw[decide_eq_true_iff]
 exact⟨fun⟨a,b,c,d⟩=>⟨a,b,c,d⟩,fun h=>⟨h.lo,h.hi,h.nn,h.sm⟩⟩
end My
namespace L2
noncomputable def Zla (p s:Int):Int:=p*s%(p+1)
noncomputable def ZmN (p s:Int):Int:=p*s/(p+1)
noncomputable def ZiN (s:Int):Nat->Int
 |0=>s
 |k+1=>ZmN (k+1) (ZiN s k)
noncomputable def Zlh (s:Int) (n:Nat):List Int:=(List.range n).map fun(k:Nat)=>Zla (k+1) (ZiN s k)
noncomputable def Zkg (s:Int):Nat->Nat->Nat
 |0,k=>k
 |n+1,k=>if 0<ZiN s k then Zkg s n (k+1) else k
noncomputable def ZmT (s:Int):Nat:=Zkg s s.toNat 0
noncomputable def ZlO (s:Int):List Int:=Zlh s (ZmT s)
def Zg6 (ns:List Int):Prop:=(∀x∈ns,0<=x)/\ns.length<=200/\ns.sum<=10000/\(ns=[]\/ns.getD (ns.length-1) 0≠0)
noncomputable instance (ns:List Int):Decidable (Zg6 ns):=by unfold Zg6;infer_instance
def Zi8 (ns:List Int):Prop:=Zg6 ns/\ns=ZlO ns.sum
noncomputable instance (ns:List Int):Decidable (Zi8 ns):=by unfold Zi8;infer_instance
noncomputable def s2 (ns:List Int) (r:Nat):Nat->Int
 |0=>0
 |i+1=>s2 ns r i+if i%2=r then ns.getD i 0 else 0
theorem ZfN {ns:List Int}{i:Nat} (h:i<ns.length):ns.getD i 0∈ns:=by
 rw[Zt8,Zt9 h];exact ZuU _
noncomputable def hs:Nat->Nat->Int->List Int
 |_,0,_=>[]
 |k,m+1,l=>Zla (k+1) l::hs (k+1) m (ZmN (k+1) l)
noncomputable def s3 (ns:List Int) (r:Nat):Nat->Int
 |0=>0
 |i+1=>s3 ns r i+if i%3=r then ns.getD i 0 else 0
def Zi7 (ns:List Int):Prop:=(∀x∈ns,0<=x)/\ns.length<=100/\ns.sum<=100/\(ns=[]\/(ns.getD 0 0≠0/\ns.getD (ns.length-1) 0≠0))
noncomputable instance (ns:List Int):Decidable (Zi7 ns):=by unfold Zi7;infer_instance
theorem ZaA {ns:List Int}{i:Nat} (h:ns.length<=i):ns.getD i 0=0:=by
 rw[Zt8,Zuk h];rfl
theorem ZfM {ns:List Int} (h:∀x∈ns,0<=x) (i:Nat):0<=ns.getD i 0:=by
 by_cases z:i<ns.length
 ·exact h _ (ZfN z)
 ·rw[ZaA (by omega)];omega
theorem sum_nn:∀{ns:List Int},(∀x∈ns,0<=x)->0<=ns.sum
 |[],_=>by simp
 |x::xs,h=>by
  have:=h x (by simp)
  have:=sum_nn (ns:=xs) (fun y hy=>h y (by simp[hy]))
  simp;omega
theorem getD_set {l:List Int}{i j:Nat}{v:Int} (h:i<l.length):(l.set i v).getD j 0=if i=j then v else l.getD j 0:=by
 simp only[Zt8,List.getElem?_set,if_pos h]
 split<;>rfl
theorem mem_getD {l:List Int}{x:Int} (h:x∈l):∃i,i<l.length/\x=l.getD i 0:=by
 obtain⟨i,hi,rfl⟩:=List.getElem_of_mem h
 exact⟨i,hi,by rw[Zt8,Zt9 hi];rfl⟩
noncomputable def Ja (ns:List Int) (k:Nat):Int:=ns.getD k 0%10^61
noncomputable def VX (ns:List Int) (later m:Nat):Nat->List Int
 |0=>List.replicate m 0
 |i+1=>(VX ns later m i).set (i%m) (((VX ns later m i).getD (i%m) 0*3+ns.getD (later+i) 0%10^61)%10^62)
@[simp] theorem Vx (ns:List Int) (later m:Nat):∀i,(VX ns later m i).length=m
 |0=>by simp[VX]
 |i+1=>by rw[VX,ZuM,Vx]
theorem ZcR (ns:List Int) (later m:Nat):∀i,∀x∈VX ns later m i,0<=x/\x<10^62
 |0=>fun x hx=>by rw[VX] at hx;rw[List.eq_of_mem_replicate hx];decide
 |i+1=>fun x hx=>by
  rw[VX] at hx
  rcases List.mem_or_eq_of_mem_set hx with h|h
  ·exact ZcR ns later m i x h
  ·rw[h];omega
theorem Zj4 {l:List Int}{P:Int->Prop} (h:∀x∈l,P x) (h0:P 0) (i:Nat):P (l.getD i 0):=by
 by_cases q:i<l.length
 ·rw[Zt8,Zt9 q];exact h _ (ZuU q)
 ·rw[ZaA (by omega)];exact h0
noncomputable def ZbT (ns:List Int) (later m:Nat):List Int:=VX ns later m (ns.length-later)
@[simp] theorem ZaY (ns:List Int) (later m:Nat):(ZbT ns later m).length=m:=Vx ..
noncomputable def stir (c j:Int):Int:=((c%2147483647+1009*j+7)*48271%2147483647)*((c%2147483647+1009*j+7)*48271%2147483647)%998244353/8
noncomputable def Zkm (t b:Int):Nat->Int
 |0=>t
 |j+1=>Zkm t b j/b
noncomputable def Zi0 (t b:Int) (m:Nat):List Int:=(List.range m).map fun(j:Nat)=>Zkm t b j%b
theorem ZfV (t b:Int) (m:Nat):Zi0 t b (m+1)=Zi0 t b m++[Zkm t b m%b]:=by simp[Zi0,Zvy]
@[simp] theorem Zct (t b:Int) (m:Nat):(Zi0 t b m).length=m:=by simp[Zi0]
noncomputable def ZgT (ns:List Int) (skip many base:Int) (mixed:Bool):List Int:=
 if mixed=true then (List.range many.toNat).map fun(j:Nat)=>stir ((ZbT ns skip.toNat (max 1 many.toNat)).getD j 0) j%base
 else Zi0 ((ns.drop skip.toNat).map fun(c:Int)=>c%10^61).sum base many.toNat
@[simp] theorem ZbX (ns:List Int) (skip many base:Int) (mixed:Bool):(ZgT ns skip many base mixed).length=many.toNat:=by unfold ZgT;split<;>simp
theorem ZiS (ns:List Int) (skip many:Int) {base:Int} (hb:0<base) (mixed:Bool):∀x∈ZgT ns skip many base mixed,0<=x/\x<base:=fun x hx=>by
 unfold ZgT at hx
 split at hx
 ·obtain⟨j,_,rfl⟩:=ZtY.mp hx
  exact⟨Zup _ (by omega),Zud _ hb⟩
 ·obtain⟨j,_,rfl⟩:=ZtY.mp hx
  exact⟨Zup _ (by omega),Zud _ hb⟩
end L2
namespace My
open L2
noncomputable def ZlR (ns:List Int) (k:Int):List Int:=tab ns.length fun x=>ns.getD (((x:Int)-k)%ns.length).toNat 0
noncomputable def ZlQ (a:List Int×Int) (s:Nat):Int:=((its Zg9 s a).2-a.2)%a.1.length
def isT (a:List Int×Int) (s:Nat):Prop:=(its Zg9 s a).1=ZlR a.1 (ZlQ a s)
noncomputable instance (a:List Int×Int) (s:Nat):Decidable (isT a s):=by unfold isT;infer_instance
noncomputable def lsF (bs:List Int) (p:Int) (i:Nat) (x:Nat):Int:=(if (x:Int)=p then 0 else bs.getD x 0)+if ((x:Int)-(p+1))%bs.length<i then bs.getD p.toNat 0/bs.length+(if ((x:Int)-(p+1))%bs.length<bs.getD p.toNat 0%bs.length then 1 else 0) else 0
section
variable {bs:List Int}{p:Int}
theorem Zjv (h0:0<=p) (h1:p<bs.length):bs.set p.toNat 0=tab bs.length (lsF bs p 0):=by
 refine Zam (by simp) fun x hx=>?_
 rw[L2.getD_set (by omega)]
 unfold lsF
 have:=Zup ((x:Int)-(p+1)) (show (bs.length:Int)≠0 by omega)
 rw[if_neg (show ¬((x:Int)-(p+1))%bs.length<((0:Nat):Int) by omega)]
 by_cases c:p.toNat=x
 ·rw[if_pos c,if_pos (by omega)];omega
 ·rw[if_neg c,if_neg (by omega)];omega
theorem Zjw (h0:0<=p) (h1:p<bs.length) {i:Nat} (hi:i<bs.length) :
  (tab bs.length (lsF bs p i)).set ((p+1+i)%bs.length).toNat (lsF bs p i ((p+1+i)%bs.length).toNat+bs.getD p.toNat 0/bs.length+(if (i:Int)<bs.getD p.toNat 0%bs.length then 1 else 0))=tab bs.length (lsF bs p (i+1)):=by
 have hn:(0:Int)<bs.length:=by omega
 have y0:=Zup (p+1+i) (show (bs.length:Int)≠0 by omega)
 have y1:=Zud (p+1+i) hn
 rw[Ze9 (by omega)]
 refine Qa fun x hx=>?_
 have d0:=Zup ((x:Int)-(p+1)) (show (bs.length:Int)≠0 by omega)
 have d1:=Zud ((x:Int)-(p+1)) hn
 have key:((x:Int)-(p+1))%bs.length=i ↔ x=((p+1+i)%bs.length).toNat:=by
  constructor
  ·intro e
   have:(p+1+i)%bs.length=x:=by
    rw[<- e,Int.add_emod_emod,show p+1+((x:Int)-(p+1))=x by omega,Zu1 (by omega) (by omega)]
   omega
  ·intro e
   have:(x:Int)=(p+1+i)%bs.length:=by omega
   rw[this,Int.emod_sub_emod,show p+1+(i:Int)-(p+1)=i by omega,Zu1 (by omega) (by omega)]
 by_cases c:x=((p+1+i)%bs.length).toNat
 ·rw[if_pos c,<- c]
  have hk:=key.mpr c
  unfold lsF
  rw[hk,if_neg (show ¬(i:Int)<(i:Int) by omega),if_pos (show (i:Int)<((i+1:Nat):Int) by omega)]
  omega
 ·rw[if_neg c]
  have hk:¬((x:Int)-(p+1))%bs.length=i:=fun z=>c (key.mp z)
  unfold lsF
  by_cases q:((x:Int)-(p+1))%bs.length<i
  ·rw[if_pos q,if_pos (show ((x:Int)-(p+1))%bs.length<((i+1:Nat):Int) by omega)]
  ·rw[if_neg q,if_neg (show ¬((x:Int)-(p+1))%bs.length<((i+1:Nat):Int) by omega)]
theorem ZkM (h0:0<=p) (h1:p<bs.length):tab bs.length (lsF bs p bs.length)=UP bs p:=by
 have hn:(0:Int)<bs.length:=by omega
 refine Qa fun x hx=>?_
 have d0:=Zup ((x:Int)-(p+1)) (show (bs.length:Int)≠0 by omega)
 have d1:=Zud ((x:Int)-(p+1)) hn
 have o1:=Zud (bs.getD p.toNat 0) hn
 have e:((x:Int)-p)%bs.length=if ((x:Int)-(p+1))%bs.length+1=bs.length then 0 else ((x:Int)-(p+1))%bs.length+1:=by
  have:((x:Int)-p)%bs.length=(((x:Int)-(p+1))%bs.length+1)%bs.length:=by
   rw[Int.emod_add_emod,show (x:Int)-(p+1)+1=x-p by omega]
  rw[this]
  split
  ·rename_i c;rw[c,Int.emod_self]
  ·exact Zu1 (by omega) (by omega)
 have e2:(if 1<=((x:Int)-p)%bs.length/\((x:Int)-p)%bs.length<=bs.getD p.toNat 0%bs.length then (1:Int) else 0)=if ((x:Int)-(p+1))%bs.length<bs.getD p.toNat 0%bs.length then 1 else 0:=by
  generalize ((x:Int)-p)%bs.length=D at e
  subst e
  by_cases q:((x:Int)-(p+1))%bs.length<bs.getD p.toNat 0%bs.length
  ·rw[if_pos q]
   apply if_pos
   split<;>omega
  ·rw[if_neg q]
   apply if_neg
   split<;>omega
 unfold lsF ZbM ZiP ZjW
 rw[if_pos d1,e2]
 omega
theorem ZkL (p s n:Int):(p+s)%n=(p+s%n)%n:=by rw[Int.add_emod_emod]
end
end My
namespace My
open PySem PySem.Spec PyProof.Rows L2
theorem Qq {ns:List Int}{k:Int} (h0:0<=k) (h1:k<ns.length):pIx (.tup (ns.map PV.int)) (.int k)=.ok (.int (ns.getD k.toNat 0)):=UR (ns:=ns) h0 h1
theorem ZdW {ns:List Int}:ZgB [.tup (ns.map PV.int)]=.ok (.int ns.length):=by simp[ZgB]
theorem Zh8 {xs:List PV}:PV.flat (.tup xs)=PV.flats xs:=by simp[PV.flat]
theorem Zab {ns:List Int}:PV.flat (.tup (ns.map PV.int))=true:=by rw[Zh8];exact Zb4
theorem Zb1 {ns:List Int}:grd (.tup (ns.map PV.int))=.ok (.tup (ns.map PV.int)):=by unfold grd;rw[Zab];rfl
theorem ZhR {xs:List PV}:ZmO (.tup xs)=.ok xs:=rfl
noncomputable def tI (b:List Int):List Key:=b.map Sum.inl
theorem Zal (b:List Int):Jh b=.tup ((tI b).map Zdv):=by unfold Jh tI;rw[Zum];rfl
theorem Ul {α:Type}{q:α->PV} (h:∀a,PV.flat (q a)=true):∀L:List α,PV.flats (L.map q)=true
 |[]=>by simp[PV.flats]
 |a::L=>by
  rw[ZtP]
  simp only[PV.flats,h a,Ul h L,Bool.and_self]
theorem Zf2 {xs:List PV} (h:PV.flats xs=true) (hl:xs.length<=1000000):newF xs=.ok (.lst xs):=by
 unfold newF
 rw[h,decide_eq_true hl];rfl
theorem Zip {α:Type}{q:α->PV}{L:List α} (h:∀a,PV.flat (q a)=true) (hl:L.length<=1000000):newF (L.map q)=.ok (.lst (L.map q)):=Zf2 (Ul h L) (by simpa using hl)
theorem Vc (t:List Int):PV.flat (Jh t)=true:=Zab
theorem ZeC {a b:List Int} (h:tI a=tI b):a=b:=by
 unfold tI at h
 exact(List.map_inj_right fun x y h=>Sum.inl.inj h).mp h
section
variable {κ:Type} [DecidableEq κ] {α:Type}{k:κ}{ks:List κ}
theorem Zbd (h:k ∉ ks):QF ks k=ks++[k]:=if_neg h
theorem Zbc {xs:List α}{y:α} (h:k ∉ ks):Uz ks xs k y=xs++[y]:=if_neg h
end
section
variable {ks:List (List Key)}{xs:List PV}{p:Option PySem.Addr}{g:List Int}{v:PV}
theorem Zly:dAt (.box p (.dt ks) xs) (Jh g)=some (atK ks xs (tI g)):=by
 rw[Zal]
 simp only[dAt,VA,Option.map_some]
theorem Zfq (h:atK ks xs (tI g)=some v):Zhq (.box p (.dt ks) xs) (Jh g)=.ok v:=by
 unfold Zhq
 rw[Zly,h]
theorem Zfp {f:Bool->Bool}:ZjY f (Jh g) (.box p (.dt ks) xs)=.ok (.bl (f (atK ks xs (tI g)).isSome)):=by
 unfold ZjY
 rw[Zly]
theorem Zfo (hv:v.flat=true) (hl:xs.length<1000000):Zhp (.box p (.dt ks) xs) (Jh g) v=.ok (.box p (.dt (QF ks (tI g))) (Uz ks xs (tI g) v)):=by
 rw[Zal]
 unfold Zhp
 simp only[VA]
 rw[if_pos ⟨hl,.inr hv⟩]
theorem ZaM:∀{ks:List (List Key)}{xs:List PV}{k:List Key},k ∉ ks->atK ks xs k=none
 |[],_,_,_=>by unfold atK;rfl
 |k'::ks,[],k,_=>by unfold atK;rfl
 |k'::ks,x::xs,k,h=>by
  unfold atK
  rw[if_neg (fun e=>h (by rw[e];exact ZuB ..)),ZaM fun z=>h (Zui _ z)]
theorem ZaN:∀{ks:List (List Key)}{xs:List PV}{k:List Key},ks.length=xs.length->k∈ks->∃x,atK ks xs k=some x
 |[],_,_,_,h=>by simp at h
 |k'::ks,[],k,h,_=>by simp at h
 |k'::ks,x::xs,k,h,hm=>by
  unfold atK
  by_cases e:k'=k
  ·rw[if_pos e];exact⟨x,rfl⟩
  ·rw[if_neg e]
   exact ZaN (by simpa using h) ((ZtN.mp hm).resolve_left fun z=>e z.symm)
theorem Zg2:∀{ks ls:List (List Key)}{xs ys:List PV}{k:List Key}{x:PV},ks.length=xs.length->atK ks xs k=some x->atK (ks++ls) (xs++ys) k=some x
 |[],_,_,_,_,_,_,h=>by unfold atK at h;cases h
 |k'::ks,_,[],_,_,_,h,_=>by simp at h
 |k'::ks,ls,x'::xs,ys,k,x,h,e=>by
  rw[ZuJ,ZuJ]
  unfold atK at e ⊢
  by_cases c:k'=k
  ·rw[if_pos c] at e ⊢;exact e
  ·rw[if_neg c] at e ⊢;exact Zg2 (by simpa using h) e
end
noncomputable def ZgP (x:Int×List Int):PV:=.tup [.int x.1,Jh x.2]
end My
namespace L2
noncomputable def cbI (s:Int):Nat->Int
 |0=>1
 |k+1=>cbI s k*(s+((k:Int)+1))/((k:Int)+1)
theorem Zgp {s:Int} (h:0<=s):∀k,0<=cbI s k
 |0=>by simp[cbI]
 |k+1=>by
  rw[cbI]
  exact Int.ediv_nonneg (Int.mul_nonneg (Zgp h k) (by omega)) (by omega)
theorem Zi2 {s:Int} (h:0<=s) (h1:s<=10^60):∀k:Nat,k<=1000->cbI s k<=(10^61)^k
 |0,_=>by simp[cbI]
 |k+1,hk=>by
  have ih:=Zi2 h h1 k (by omega)
  have nn:=Zgp h k
  rw[cbI]
  have e1:cbI s k*(s+((k:Int)+1))<=(10^61)^k*10^61:=Int.mul_le_mul ih (by omega) (by omega) (Int.pow_nonneg (by decide))
  have e2:cbI s k*(s+((k:Int)+1))/((k:Int)+1)<=cbI s k*(s+((k:Int)+1)):=Int.ediv_le_self _ (Int.mul_nonneg nn (by omega))
  rw[Int.pow_succ]
  omega
noncomputable def cbN (p s:Int):Int:=if s<0 then 0 else cbI s (p-1).toNat
theorem Zgo {s:Int} (h:0<=s) (h1:s<=10^60) {k:Nat} (hk:k<=24):(cbI s k).natAbs<2^60000:=by
 have h2:=Zi2 h h1 k (by omega)
 have h3:=Zgp h k
 have h4:((10:Int)^61)^k<=(10^61)^24:=by
  have:((10:Nat)^61)^k<=(10^61)^24:=Zvr (by decide) hk
  exact_mod_cast this
 have h5:((10:Int)^61)^24=10^1464:=by rw[<- Int.pow_mul]
 have h6:(cbI s k).natAbs<=10^1464:=by
  have:cbI s k<=10^1464:=by rw[<- h5];exact Int.le_trans h2 h4
  have e:((cbI s k).natAbs:Int)=cbI s k:=Int.natAbs_of_nonneg h3
  have:((cbI s k).natAbs:Int)<=((10^1464:Nat):Int):=by rw[e];exact_mod_cast this
  exact_mod_cast this
 have h7:10^1464<2^60000:=by
  calc (10:Nat)^1464<=(2^4)^1464:=Nat.pow_le_pow_left (by decide) _
   _=2^5856:=by rw[<- Nat.pow_mul]
   _<2^60000:=Nat.pow_lt_pow_right (by decide) (by decide)
 omega
noncomputable def bN:Nat->Nat->Nat
 |0=>fun _=>1
 |s+1=>fun k=>Nat.rec 1 (fun k ih=>bN s (k+1)+ih) k
@[simp] theorem Znf (s:Nat):bN s 0=1:=by cases s<;>rfl
@[simp] theorem Zne (k:Nat):bN 0 k=1:=by exact id rfl
theorem Zc6 (s k:Nat):bN (s+1) (k+1)=bN s (k+1)+bN (s+1) k:=rfl
theorem Zl5:∀n s k,s+k=n->(k+1)*bN s (k+1)=(s+k+1)*bN s k/\(s+1)*bN (s+1) k=(s+k+1)*bN s k:=by
 intro n
 induction n using Nat.strongRecOn with
 |ind n ih =>
  intro s k h
  constructor
  ·cases s with
   |zero=>simp
   |succ s =>
    have h1:=(ih (s+k) (by omega) s k rfl).1
    have h2:=(ih (s+k) (by omega) s k rfl).2
    rw[Zc6,Nat.mul_add,h1,<- h2,<- Nat.add_mul]
    congr 1
  ·cases k with
   |zero=>simp
   |succ k =>
    have h1:=(ih (s+k) (by omega) s k rfl).1
    have h2:=(ih (s+k) (by omega) s k rfl).2
    rw[Zc6,Nat.mul_add,h2,<- h1,<- Nat.add_mul]
    congr 1
    omega
theorem Zi3 (s:Nat):∀k:Nat,cbI s k=(bN s k:Nat)
 |0=>by simp[cbI]
 |k+1=>by
  have h:=(Zl5 (s+k) s k rfl).1
  rw[cbI,Zi3 s k]
  have e:((bN s k:Nat):Int)*((s:Int)+((k:Int)+1))=((k:Int)+1)*(bN s (k+1):Nat):=by
   have:(((k+1)*bN s (k+1):Nat):Int)=(((s+k+1)*bN s k:Nat):Int):=by rw[h]
   rw[Int.natCast_mul,Int.natCast_mul] at this
   rw[show ((k:Int)+1)=((k+1:Nat):Int) by omega,this,Int.mul_comm]
   congr 1
  rw[e,Int.mul_ediv_cancel_left _ (by omega)]
theorem Zai {p s:Int} (hs:0<=s):cbN p s=(bN s.toNat (p-1).toNat:Nat):=by
 unfold cbN
 rw[if_neg (by omega)]
 have:=Zi3 s.toNat (p-1).toNat
 rwa [Zu0 hs] at this
theorem Zc2 {p s:Int} (hs:s<0):cbN p s=0:=if_pos hs
theorem Zgn (p s:Int):0<=cbN p s:=by
 by_cases h:s<0
 ·rw[Zc2 h];exact Int.le_refl _
 ·rw[Zai (by omega)];omega
theorem Zc1 {s:Int} (hs:0<=s):cbN 1 s=1:=by rw[Zai hs];simp
theorem ZdF (p:Int):cbN p 0=1:=by rw[Zai (Int.le_refl _)];simp
theorem ZaI {p s:Int} (hp:2<=p) (hs:0<=s):cbN p s=cbN p (s-1)+cbN (p-1) s:=by
 by_cases h:s=0
 ·subst h
  rw[Zc2 (p:=p) (s:=0-1) (by omega),ZdF,ZdF];rfl
 ·rw[Zai hs,Zai (p:=p) (s:=s-1) (by omega),Zai (p:=p-1) hs]
  obtain⟨t,ht⟩:∃t:Nat,s=t+1:=⟨(s-1).toNat,by omega⟩
  obtain⟨q,hq⟩:∃q:Nat,p=q+2:=⟨(p-2).toNat,by omega⟩
  subst ht
  subst hq
  rw[show ((t:Int)+1).toNat=t+1 by omega,show ((q:Int)+2-1).toNat=q+1 by omega,show ((t:Int)+1-1).toNat=t by omega,show ((q:Int)+2-1-1).toNat=q by omega,Zc6]
  omega
theorem ZdG {p s t:Int} (hp:1<=p) (h:s<=t):cbN p s<=cbN p t:=by
 by_cases hs:s<0
 ·rw[Zc2 hs];exact Zgn p t
 ·obtain⟨d,rfl⟩:∃d:Nat,t=s+d:=⟨(t-s).toNat,by omega⟩
  induction d with
  |zero=>simp
  |succ d ih =>
   have ih:=ih (by omega)
   by_cases h1:p=1
   ·subst h1;rw[Zc1 (by omega),Zc1 (by omega)];omega
   ·have h2:=ZaI (p:=p) (s:=s+((d+1:Nat):Int)) (by omega) (by omega)
    rw[show s+((d+1:Nat):Int)-1=s+(d:Int) by omega] at h2
    have:=Zgn (p-1) (s+((d+1:Nat):Int))
    omega
noncomputable def ZgF:List Int->Int
 |[]=>0
 |[_]=>0
 |_::y::r=>cbN (((y::r).length:Int)+1) ((y::r).sum-1)+ZgF (y::r)
theorem ZaK:∀(l:List Int),l≠[]->(∀x∈l,0<=x)->0<=ZgF l/\ZgF l+1<=cbN l.length l.sum
 |[],h,_=>absurd rfl h
 |[x],_,hn=>by
  have hx:=hn x (by simp)
  simp only[ZgF,Zua,ZuO,Zvd,List.sum_nil]
  rw[show ((0+1:Nat):Int)=1 by rfl,Zc1 (by omega)]
  omega
 |x::y::r,_,hn=>by
  have hx:=hn x (by simp)
  have hr:∀z∈y::r,0<=z:=fun z hz=>hn z (by simp only[ZtN] at hz ⊢;right;exact hz)
  have hs:=sum_nn hr
  obtain⟨h1,h2⟩:=ZaK (y::r) (by simp) hr
  rw[ZgF]
  have h3:=Zgn (((y::r).length:Int)+1) ((y::r).sum-1)
  refine⟨by omega, ?_⟩
  have h4:=ZaI (p:=((y::r).length:Int)+1) (s:=(y::r).sum) (by simp only[Zua];omega) hs
  rw[show ((y::r).length:Int)+1-1=(y::r).length by omega] at h4
  have h5:=ZdG (p:=((y::r).length:Int)+1) (s:=(y::r).sum) (t:=(x::y::r).sum) (by omega) (by simp only[Zvd];omega)
  rw[show (((x::y::r).length:Nat):Int)=((y::r).length:Int)+1 by simp only[Zua];omega]
  omega
noncomputable def Zf1 (l:List Int):Int:=cbN l.length l.sum-1-ZgF l
theorem Zjo {l:List Int} (h:l≠[]) (hn:∀x∈l,0<=x):0<=Zf1 l/\Zf1 l<cbN l.length l.sum:=by
 have:=ZaK l h hn
 unfold Zf1
 omega
theorem Zf0:∀{a b:List Int},a.length=b.length->a.sum=b.sum->(∀x∈a,0<=x)->(∀x∈b,0<=x)->a≠[] ->
  (∃i,i<a.length/\(∀j,j<i->a.getD j 0=b.getD j 0)/\a.getD i 0<b.getD i 0)->ZgF b<ZgF a
 |[],_,_,_,_,_,h,_=>absurd rfl h
 |[x],b,hl,hs,_,_,_,hd=>by
  obtain⟨i,hi,h1,h2⟩:=hd
  simp at hi
  subst hi
  match b,hl with
  |[z],_=>simp at hs h2;omega
 |x::y::r,b,hl,hs,hna,hnb,_,hd=>by
  match b,hl with
  |z::w::q,hl =>
   have hra:∀v∈y::r,0<=v:=fun v hv=>hna v (by simp only[ZtN] at hv ⊢;right;exact hv)
   have hrb:∀v∈w::q,0<=v:=fun v hv=>hnb v (by simp only[ZtN] at hv ⊢;right;exact hv)
   have hlen:(y::r).length=(w::q).length:=by simpa using hl
   have sa:=sum_nn hra
   have sb:=sum_nn hrb
   obtain⟨i,hi,h1,h2⟩:=hd
   rw[ZgF,ZgF]
   have hsum:x+(y::r).sum=z+(w::q).sum:=by simpa[Zvd] using hs
   cases i with
   |zero =>
    have h2:x<z:=by simpa using h2
    obtain⟨b1,b2⟩:=ZaK (w::q) (by simp) hrb
    have a1:=(ZaK (y::r) (by simp) hra).1
    have h4:=ZaI (p:=((w::q).length:Int)+1) (s:=(w::q).sum) (by simp only[Zua];omega) sb
    rw[show ((w::q).length:Int)+1-1=(w::q).length by omega] at h4
    have h5:=ZdG (p:=((w::q).length:Int)+1) (s:=(w::q).sum) (t:=(y::r).sum-1) (by omega) (by omega)
    rw[hlen]
    omega
   |succ i =>
    have hxz:x=z:=by simpa using h1 0 (by omega)
    have ih:=Zf0 (a:=y::r) (b:=w::q) hlen (by omega) hra hrb (by simp) ⟨i,by simpa using hi,fun j hj=>by simpa using h1 (j+1) (by omega),by simpa using h2⟩
    rw[hlen,show (y::r).sum=(w::q).sum by omega]
    omega
end L2
namespace My
open L2
end My
namespace L2
end L2
namespace My
open L2
end My
namespace L2
noncomputable def tri:Nat->Int
 |0=>0
 |k+1=>tri k+(k+1)
noncomputable def adI (l:List Int) (k i:Nat):Int:=l.getD i 0-((k:Int)-i)
structure Znk (l:List Int) (k:Nat):Prop where
 lo:tri k<=l.sum
 hi:l.sum<tri (k+1)
 ad:∀i,i<=k->0<=adI l k i/\adI l k i<=1
 z:∀i,k<i->l.getD i 0=0
noncomputable def Znb:Bool:=(List.range 63).all fun n=>(List.range (n+1)).all fun m=>(List.range (n+1)).all fun a =>
 ((a*Nat.gcd (n+1) m%(n+1)==0)==(a%((n+1)/Nat.gcd (n+1) m)==0))&&(a*Nat.gcd (n+1) m/(n+1)==a/((n+1)/Nat.gcd (n+1) m))&&decide (a/((n+1)/Nat.gcd (n+1) m)<=Nat.gcd (n+1) m)&&decide (0<Nat.gcd (n+1) m)&&decide (0<(n+1)/Nat.gcd (n+1) m)&&decide (Nat.gcd (n+1) m<=n+1)
theorem Zld:Znb=true:=by decide +kernel
structure Gd (n m a:Nat):Prop where
 mod:a*Nat.gcd n m%n=0 ↔ a%(n/Nat.gcd n m)=0
 div:a*Nat.gcd n m/n=a/(n/Nat.gcd n m)
 le:a/(n/Nat.gcd n m)<=Nat.gcd n m
 p1:0<Nat.gcd n m
 p2:0<n/Nat.gcd n m
 le2:Nat.gcd n m<=n
theorem gd {n m a:Nat} (h1:n<=63) (hm:m<n) (ha:a<n):Gd n m a:=by
 have h:=Zuo.mp (Zuo.mp (Zuo.mp Zld (n-1) (Zug.mpr (by omega))) m (Zug.mpr (by omega))) a (Zug.mpr (by omega))
 rw[show n-1+1=n by omega] at h
 simp only[Bool.and_eq_true,beq_iff_eq,decide_eq_true_eq] at h
 obtain⟨⟨⟨⟨⟨h1,h2⟩,h3⟩,h4⟩,h5⟩,h6⟩:=h
 refine⟨?_,h2,h3,h4,h5,h6⟩
 rw[<- beq_iff_eq (a:=a*Nat.gcd n m%n),<- beq_iff_eq (a:=a%(n/Nat.gcd n m)),h1]
end L2
namespace L2
open PySem
end L2
namespace My
open PySem L2
end My
namespace L2
end L2
namespace My
open PySem L2
def Wide (ns:List Int):Prop:=∀x∈ns,0<=x/\x<=10^60
end My
namespace My
open L2
theorem ZmJ:∀{x y:List Int},HT.ZL x y=true->∃i,i<y.length/\(∀j,j<i->x.getD j 0=y.getD j 0)/\(x.getD i 0<y.getD i 0\/x.length<=i)
 |[],[],h=>by simp[HT.ZL] at h
 |[],b::y,h=>⟨0,by simp,by simp,.inr (by simp)⟩
 |a::x,[],h=>by simp[HT.ZL] at h
 |a::x,b::y,h=>by
  rw[HT.JC] at h
  by_cases e:a=b
  ·rw[if_pos e] at h
   obtain⟨i,h1,h2,h3⟩:=ZmJ h
   refine⟨i+1,by simp;exact h1,fun j hj=>?_, ?_⟩
   ·cases j with
    |zero=>simpa using e
    |succ j=>simpa using h2 j (by omega)
   ·rcases h3 with z|z
    ·exact .inl (by simpa using z)
    ·exact .inr (by simpa using z)
  ·rw[if_neg e] at h
   exact⟨0,by simp,by simp,.inl (by simpa using h)⟩
def Bs (n:Nat) (s:Int) (b:List Int):Prop:=b.length=n/\(∀x∈b,0<=x)/\b.sum=s
theorem Bs.sow {n:Nat}{s:Int}{b:List Int} (h:Bs n s b) {p:Int} (h0:0<=p) (h1:p<n):Bs n s (UP b p):=by
 obtain⟨l,nn,sm⟩:=h
 refine⟨by rw[Qf];exact l,fun x hx=>?_,by rw[ZgQ h0 (by omega) (ZfM nn _)];exact sm⟩
 unfold UP tab at hx
 obtain⟨y,hy,rfl⟩:=ZtY.mp hx
 exact ZiM nn _ y (Zug.mp hy)
theorem Zdm:∀(n:Nat) (l:List Nat),l.Nodup->(∀x∈l,x<n)->l.length<=n:=by
 intro n
 induction n with
 |zero=>intro l _ h;cases l with
  |nil=>exact ZtE _
  |cons x l=>exact absurd (h x (by simp)) (by omega)
 |succ n ih =>
  intro l hd h
  have e:=ih (l.erase n) (hd.erase n) (fun x hx=>by
   have:=h x (List.mem_of_mem_erase hx)
   have:x≠n:=fun z=>by subst z;exact(List.Nodup.mem_erase_iff hd).mp hx |>.1 rfl
   omega)
  by_cases c:n∈l
  ·rw[List.length_erase_of_mem c] at e;omega
  ·rw[List.erase_of_not_mem c] at e;omega
theorem Zio {a b:List Int} (hl:a.length=b.length) (hs:a.sum=b.sum) (ha:∀x∈a,0<=x) (hb:∀x∈b,0<=x) (h:HT.ZL a b=true):Zf1 a≠Zf1 b:=by
 obtain⟨i,i1,i2,i3⟩:=ZmJ h
 have:=Zf0 hl hs ha hb (fun z=>by rw[z] at hl;simp at hl;omega) ⟨i,by omega,i2,by omega⟩
 unfold Zf1
 rw[hl,hs]
 omega
theorem Zjn {a b:List Int} (hl:a.length=b.length) (hs:a.sum=b.sum) (ha:∀x∈a,0<=x) (hb:∀x∈b,0<=x) (h:Zf1 a=Zf1 b):a=b:=by
 cases h1:HT.ZL a b with
 |true=>exact absurd h (Zio hl hs ha hb h1)
 |false =>
  cases h2:HT.ZL b a with
  |true=>exact absurd h.symm (Zio hl.symm hs.symm hb ha h2)
  |false=>exact HL.JH h1 h2
theorem Zl0 {n:Nat}{s:Int} (hn:1<=n) {L:List (List Int)} (nd:L.Nodup) (hL:∀x∈L,Bs n s x):L.length<=(cbN n s).toNat:=by
 have hb:∀x∈L,0<=Zf1 x/\Zf1 x<cbN n s:=fun x hx=>by
  obtain⟨l,nn,sm⟩:=hL x hx
  have:=Zjo (l:=x) (fun z=>by rw[z] at l;simp at l;omega) nn
  rw[l,sm] at this
  exact this
 have h:=Zdm (cbN n s).toNat (L.map fun x=>(Zf1 x).toNat) (by
  rw[Zu6,ZuF]
  refine(Zu6.mp nd).imp_of_mem ?_
  intro a b ha hb' hab e
  obtain⟨l,nn,sm⟩:=hL a ha
  obtain⟨l',nn',sm'⟩:=hL b hb'
  have:=hb a ha
  have:=hb b hb'
  exact hab (Zjn (by omega) (by omega) nn nn' (by omega))) (fun z hz=>by
  obtain⟨x,hx,rfl⟩:=ZtY.mp hz
  have:=hb x hx
  omega)
 rw[ZtG] at h
 exact h
inductive Rch (P:List Int) (b:List Int):List Int->Prop
 |refl:Rch P b b
 |step {x:List Int}{p:Int}:Rch P b x->p∈P->0<x.getD p.toNat 0->Rch P b (UP x p)
theorem Rch.bs {P b:List Int}{n:Nat}{s:Int} (hP:∀p∈P,0<=p/\p<n) (hb:Bs n s b) {x:List Int} (h:Rch P b x):Bs n s x:=by
 induction h with
 |refl=>exact hb
 |step _ hp hx ih=>exact ih.sow (hP _ hp).1 (hP _ hp).2
noncomputable def Vv (P:List Int) (x:List Int):List (Int×List Int):=(P.filter fun p=>decide (0<x.getD p.toNat 0)).map fun p=>(p,UP x p)
theorem VZ {P x:List Int}{y:Int×List Int}:y∈Vv P x ↔ y.1∈P/\0<x.getD y.1.toNat 0/\y.2=UP x y.1:=by
 unfold Vv
 constructor
 ·intro h
  obtain⟨p,hp,rfl⟩:=ZtY.mp h
  obtain⟨h1,h2⟩:=Zuw.mp hp
  exact⟨h1,of_decide_eq_true h2,rfl⟩
 ·rintro⟨h1,h2,h3⟩
  refine ZtY.mpr ⟨y.1,Zuw.mpr ⟨h1,decide_eq_true h2⟩, ?_⟩
  rw[<- h3]
noncomputable abbrev NB:=List (List Int)×List (List Int)×List PV
noncomputable def stB (x:List Int) (st:NB) (y:Int×List Int):NB:=if y.2∈st.2.1 then st else (st.1++[y.2],st.2.1++[y.2],st.2.2++[.tup [Jh x,.int y.1]])
noncomputable def bdB (P x:List Int) (st:NB):NB:=(Vv P x).foldl (stB x) st
noncomputable def lvB (P:List Int) (lv:List (List Int)) (st:NB):NB:=lv.foldl (fun st x=>bdB P x st) st
structure Fo (R:List Int->Prop) (bs0:List (List Int)) (st:NB):Prop where
 app:st.2.1=bs0++st.1
 nd:st.2.1.Nodup
 re:∀x∈st.2.1,R x
 ln:st.2.2.length=st.2.1.length
 fl:PV.flats st.2.2=true
theorem Zaa:∀(xs:List PV) (y:PV),PV.flats xs=true->PV.flat y=true->PV.flats (xs++[y])=true
 |[],y,_,h=>by simp[PV.flats,h]
 |x::xs,y,h1,h2=>by
  simp only[PV.flats,Bool.and_eq_true] at h1
  simp only[ZuJ,PV.flats,Bool.and_eq_true]
  exact⟨h1.1,Zaa xs y h1.2 h2⟩
section
variable {R:List Int->Prop}{bs0:List (List Int)}{st:NB}
theorem Fo.one (h:Fo R bs0 st) {x:List Int}{y:Int×List Int} (hy:R y.2):Fo R bs0 (stB x st y)/\(∀z∈st.2.1,z∈(stB x st y).2.1)/\y.2∈(stB x st y).2.1:=by
 unfold stB
 split
 ·rename_i c
  exact⟨h,fun z hz=>hz,c⟩
 ·rename_i c
  refine⟨⟨by simp[h.app], ?_,fun z hz=>?_,by simp[h.ln], ?_⟩,fun z hz=>by simp[hz],by simp⟩
  ·show (st.2.1++[y.2]).Nodup
   rw[List.nodup_append]
   refine⟨h.nd,by simp,fun a ha b hb e=>?_⟩
   rw[ZtQ.mp hb] at e
   rw[e] at ha
   exact c ha
  ·rcases ZtD.mp hz with hz|hz
   ·exact h.re z hz
   ·rw[ZtQ.mp hz];exact hy
  ·exact Zaa _ _ h.fl (by simp only[PV.flat,PV.flats,Vc,Bool.and_self])
theorem Fo.fold {x:List Int}:∀{L:List (Int×List Int)}{st:NB},Fo R bs0 st->(∀y∈L,R y.2)->Fo R bs0 (L.foldl (stB x) st)/\(∀z∈st.2.1,z∈(L.foldl (stB x) st).2.1)/\∀y∈L,y.2∈(L.foldl (stB x) st).2.1
 |[],st,h,_=>⟨h,fun z hz=>hz,by simp⟩
 |y::L,st,h,hL=>by
  obtain⟨a1,a2,a3⟩:=h.one (x:=x) (hL y (by simp))
  obtain⟨b1,b2,b3⟩:=Fo.fold (x:=x) (L:=L) a1 fun z hz=>hL z (by simp[hz])
  refine⟨b1,fun z hz=>b2 z (a2 z hz),fun z hz=>?_⟩
  rcases ZtN.mp hz with rfl|hz
  ·exact b2 _ a3
  ·exact b3 z hz
end
section
variable {P b:List Int}{bs0:List (List Int)}
theorem Fo.lv:∀{lv:List (List Int)}{st:NB},Fo (Rch P b) bs0 st->(∀x∈lv,Rch P b x)->Fo (Rch P b) bs0 (lvB P lv st)/\(∀z∈st.2.1,z∈(lvB P lv st).2.1)/\∀x∈lv,∀p∈P,0<x.getD p.toNat 0->UP x p∈(lvB P lv st).2.1
 |[],st,h,_=>⟨h,fun z hz=>hz,by simp⟩
 |x::lv,st,h,hL=>by
  obtain⟨a1,a2,a3⟩:=Fo.fold (x:=x) (L:=Vv P x) h fun y hy=>by
   obtain⟨h1,h2,h3⟩:=VZ.mp hy
   rw[h3]
   exact .step (hL x (by simp)) h1 h2
  obtain⟨b1,b2,b3⟩:=Fo.lv (lv:=lv) a1 fun z hz=>hL z (by simp[hz])
  refine⟨b1,fun z hz=>b2 z (a2 z hz),fun z hz p hp hx=>?_⟩
  rcases ZtN.mp hz with rfl|hz
  ·exact b2 _ (a3 (p,UP z p) (VZ.mpr ⟨hp,hx,rfl⟩))
  ·exact b3 z hz p hp hx
end
noncomputable def wk (P b:List Int):Nat->NB
 |0=>([b],[b],[.non])
 |i+1=>lvB P (wk P b i).1 ([],(wk P b i).2)
structure Wk (P b:List Int) (st:NB):Prop where
 nd:st.2.1.Nodup
 re:∀x∈st.2.1,Rch P b x
 sub:∀x∈st.1,x∈st.2.1
 cl:∀x∈st.2.1,x∈st.1\/∀p∈P,0<x.getD p.toNat 0->UP x p∈st.2.1
 bg:b∈st.2.1
 ln:st.2.2.length=st.2.1.length
 fl:PV.flats st.2.2=true
theorem UC (P b:List Int):∀i,Wk P b (wk P b i)
 |0=>⟨by simp[wk],fun x hx=>by rw[ZtQ.mp hx];exact .refl,fun x hx=>hx,fun x hx=>.inl hx,by simp[wk],rfl,rfl⟩
 |i+1=>by
  have h:=UC P b i
  have f0:Fo (Rch P b) (wk P b i).2.1 ([],(wk P b i).2):=⟨by simp,h.nd,h.re,h.ln,h.fl⟩
  obtain⟨a1,a2,a3⟩:=Fo.lv f0 fun x hx=>h.re x (h.sub x hx)
  show Wk P b (lvB P (wk P b i).1 ([],(wk P b i).2))
  refine⟨a1.nd,a1.re,fun x hx=>?_,fun x hx=>?_,a2 _ h.bg,a1.ln,a1.fl⟩
  ·rw[a1.app];exact ZtD.mpr (.inr hx)
  ·rw[a1.app] at hx
   rcases ZtD.mp hx with hx|hx
   ·right
    intro p hp hp0
    rcases h.cl x hx with c|c
    ·exact a3 x c p hp hp0
    ·exact a2 _ (c p hp hp0)
   ·exact .inl hx
theorem QK (P b:List Int) (i:Nat):(wk P b (i+1)).2.1=(wk P b i).2.1++(wk P b (i+1)).1:=by
 have h:=UC P b i
 have f0:Fo (Rch P b) (wk P b i).2.1 ([],(wk P b i).2):=⟨by simp,h.nd,h.re,h.ln,h.fl⟩
 exact(Fo.lv f0 fun x hx=>h.re x (h.sub x hx)).1.app
theorem Ze5 (P b:List Int):∀i,(∀j,j<=i->(wk P b j).1≠[])->i+1<=(wk P b i).2.1.length
 |0,_=>by simp[wk]
 |i+1,h=>by
  have ih:=Ze5 P b i fun j hj=>h j (by omega)
  rw[QK,Zus]
  have:=Zvu.mpr (h (i+1) (ZtE _))
  omega
noncomputable def wkN (P b:List Int):Nat:=((List.range 1001).find? fun i=>(wk P b i).1.isEmpty).getD 0
structure ZcB (n:Nat) (s:Int) (P b:List Int):Prop where
 n1:1<=n
 hP:∀p∈P,0<=p/\p<n
 hb:Bs n s b
 few:cbN n s<=1000
theorem ZcB.le {n:Nat}{s:Int}{P b:List Int} (h:ZcB n s P b) (i:Nat):(wk P b i).2.1.length<=1000:=by
 have:=Zl0 h.n1 (UC P b i).nd fun x hx=>((UC P b i).re x hx).bs h.hP h.hb
 have:=h.few
 omega
theorem ZcB.end {n:Nat}{s:Int}{P b:List Int} (h:ZcB n s P b):wkN P b<=1000/\(wk P b (wkN P b)).1=[]/\∀j,j<wkN P b->(wk P b j).1≠[]:=by
 have hex:∃i,i<1001/\(wk P b i).1=[]:=by
  apply Classical.byContradiction
  intro c
  have:=Ze5 P b 1000 fun j hj e=>c ⟨j,by omega,e⟩
  have:=h.le 1000
  omega
 obtain⟨t,t1,t2⟩:=hex
 unfold wkN
 cases hf:(List.range 1001).find? fun i=>(wk P b i).1.isEmpty with
 |none =>
  have:=Zv4.mp hf t (Zug.mpr t1)
  rw[t2] at this
  exact absurd rfl this
 |some q =>
  obtain⟨q1,q2,q3⟩:=List.find?_range_eq_some.mp hf
  refine⟨by have:=Zug.mp q2;simp only[ZuT];omega,List.isEmpty_iff.mp q1,fun j hj e=>?_⟩
  have:=q3 j hj
  simp[e] at this
noncomputable def Uy (P b:List Int):List (List Int):=(wk P b (wkN P b)).2.1
theorem ZcB.mem {n:Nat}{s:Int}{P b:List Int} (h:ZcB n s P b) {x:List Int}:x∈Uy P b ↔ Rch P b x:=by
 have W:=UC P b (wkN P b)
 have e:=h.end.2.1
 constructor
 ·exact fun hx=>W.re x hx
 ·intro hx
  induction hx with
  |refl=>exact W.bg
  |step _ hp h0 ih =>
   rcases W.cl _ ih with c|c
   ·rw[e] at c;cases c
   ·exact c _ hp h0
theorem ZiV (P b:List Int):(Uy P b).Nodup:=(UC P b _).nd
noncomputable def ZgE (P b:List Int):List (List Int):=ZdP (Uy P b)
theorem ZcB.com {n:Nat}{s:Int}{P b:List Int} (h:ZcB n s P b) {x:List Int}:x∈ZgE P b ↔ Rch P b x:=by
 unfold ZgE
 rw[(JE _).mem_iff,h.mem]
noncomputable def endB (P x:List Int):Bool:=P.all fun p=>decide (x.getD p.toNat 0=0)
noncomputable def Z5 (n:Nat) (l:List Int):List Int:=((List.range n).filter fun(i:Nat)=>decide ((i:Int) ∉ l)).map fun(i:Nat)=>(i:Int)
theorem Q3 {n:Nat}{l:List Int}{p:Int}:p∈Z5 n l ↔ (0<=p/\p<n)/\p ∉ l:=by
 unfold Z5
 constructor
 ·intro h
  obtain⟨i,hi,rfl⟩:=ZtY.mp h
  obtain⟨h1,h2⟩:=Zuw.mp hi
  have:=Zug.mp h1
  exact⟨by omega,of_decide_eq_true h2⟩
 ·rintro⟨h1,h2⟩
  exact ZtY.mpr ⟨p.toNat,Zuw.mpr ⟨Zug.mpr (by omega),decide_eq_true (by rw[Zu0 h1.1];exact h2)⟩,by omega⟩
theorem Zb3 (n:Nat) (l:List Int):(Z5 n l).length<=n:=by
 unfold Z5
 rw[ZtG]
 exact ZtV (Zvn _ _) (by simp)
section
variable {n:Nat}{s:Int}{P b:List Int} (F:ZcB n s P b)
include F
end
end My
namespace My
open PySem L2
end My
namespace My
open L2
theorem Zi4:∀{ks:List (List Key)}{xs:List PV}{k:List Key}{v:PV}{j:Nat},ks.Nodup->ks[j]?=some k->xs[j]?=some v->atK ks xs k=some v
 |[],_,_,_,_,_,h,_=>by simp at h
 |k'::ks,[],_,_,_,_,_,h=>by simp at h
 |k'::ks,x::xs,k,v,0,_,h1,h2=>by
  simp at h1 h2
  subst h1 h2
  simp[atK]
 |k'::ks,x::xs,k,v,j+1,nd,h1,h2=>by
  simp only[Zvb] at h1 h2
  obtain⟨n1,n2⟩:=ZuL.mp nd
  have:k'≠k:=fun e=>n1 (by rw[e];exact ZtA h1)
  have ih:=Zi4 n2 h1 h2
  simp only[atK]
  rw[if_neg this]
  exact ih
def Pa (lv:List (List Int)) (P:List Int) (vs0:List PV) (st:NB):Prop:=∃nv:List PV,st.2.2=vs0++nv/\nv.length=st.1.length/\∀(i:Nat) (z:List Int),st.1[i]?=some z->∃x p,x∈lv/\p∈P/\0<x.getD p.toNat 0/\z=UP x p/\nv[i]?=some (.tup [Jh x,.int p])
theorem Pa.one {lv:List (List Int)}{P:List Int}{vs0:List PV}{st:NB} (h:Pa lv P vs0 st) {x:List Int} (hx:x∈lv) {y:Int×List Int} (hy:y∈Vv P x):Pa lv P vs0 (stB x st y):=by
 obtain⟨nv,h1,h2,h3⟩:=h
 obtain⟨y1,y2,y3⟩:=VZ.mp hy
 unfold stB
 split
 ·exact⟨nv,h1,h2,h3⟩
 ·refine⟨nv++[.tup [Jh x,.int y.1]],by simp[h1],by simp[h2],fun i z hz=>?_⟩
  by_cases c:i<st.1.length
  ·have hz:(st.1++[y.2])[i]?=some z:=hz
   rw[ZtI c] at hz
   obtain⟨x',p',a1,a2,a3,a4,a5⟩:=h3 i z hz
   exact⟨x',p',a1,a2,a3,a4,by rw[ZtI (by omega)];exact a5⟩
  ·have hz:(st.1++[y.2])[i]?=some z:=hz
   rw[ZtJ (by omega)] at hz
   have hi:i-st.1.length=0:=by
    have:=(ZtC.mp hz).1
    simp at this
    omega
   rw[hi] at hz
   simp at hz
   refine⟨x,y.1,hx,y1,y2,by rw[<- hz,y3], ?_⟩
   rw[ZtJ (by omega),show i-nv.length=0 by omega];rfl
theorem Pa.fold {lv:List (List Int)}{P:List Int}{vs0:List PV}{x:List Int} (hx:x∈lv):∀{L:List (Int×List Int)}{st:NB},Pa lv P vs0 st->(∀y∈L,y∈Vv P x)->Pa lv P vs0 (L.foldl (stB x) st)
 |[],st,h,_=>h
 |y::L,st,h,hL=>by
  rw[ZvF]
  exact Pa.fold hx (L:=L) (h.one hx (hL y (by simp))) fun z hz=>hL z (by simp[hz])
theorem Pa.lv {lv:List (List Int)}{P:List Int}{vs0:List PV}:∀{L:List (List Int)}{st:NB},Pa lv P vs0 st->(∀x∈L,x∈lv)->Pa lv P vs0 (lvB P L st)
 |[],st,h,_=>h
 |x::L,st,h,hL=>by
  show Pa lv P vs0 (lvB P L (bdB P x st))
  exact Pa.lv (L:=L) (Pa.fold (hL x (by simp)) h fun y hy=>hy) fun z hz=>hL z (by simp[hz])
theorem Zki (P b:List Int) (i:Nat):Pa (wk P b i).1 P (wk P b i).2.2 (wk P b (i+1)):=
 Pa.lv (st:=([],(wk P b i).2)) ⟨[],by simp,rfl,fun i z h=>by simp at h⟩ fun x hx=>hx
theorem Zkq {bs:List (List Int)} (h:bs.Nodup):(bs.map tI).Nodup:=by
 rw[Zu6,ZuF]
 exact(Zu6.mp h).imp fun hab e=>hab (ZeC e)
theorem ZbS (P b:List Int) {k:List Int}{v:PV} (i:Nat) (h:atK ((wk P b i).2.1.map tI) (wk P b i).2.2 (tI k)=some v):∀m,atK ((wk P b (i+m)).2.1.map tI) (wk P b (i+m)).2.2 (tI k)=some v
 |0=>h
 |m+1=>by
  have ih:=ZbS P b i h m
  obtain⟨nv,h1,h2,_⟩:=Zki P b (i+m)
  rw[show i+(m+1)=i+m+1 by omega,QK,h1,Zuy]
  exact Zg2 (by rw[ZtG];exact(UC P b (i+m)).ln.symm) ih
theorem ZiE (P b:List Int) (m:Nat):atK ((wk P b m).2.1.map tI) (wk P b m).2.2 (tI b)=some .non:=by
 have:=ZbS P b (k:=b) (v:=.non) 0 (by simp[wk,atK]) m
 rw[Zuu] at this
 exact this
theorem Zkh {P b:List Int}{i:Nat}{x:List Int} (hx:x∈(wk P b (i+1)).1):∃y p,y∈(wk P b i).1/\p∈P/\0<y.getD p.toNat 0/\x=UP y p/\∀m,i+1<=m->atK ((wk P b m).2.1.map tI) (wk P b m).2.2 (tI x)=some (.tup [Jh y,.int p]):=by
 obtain⟨nv,h1,h2,h3⟩:=Zki P b i
 obtain⟨j,j1,j2⟩:=List.getElem_of_mem hx
 have hj:(wk P b (i+1)).1[j]?=some x:=by rw[Zt9 j1,j2]
 obtain⟨y,p,a1,a2,a3,a4,a5⟩:=h3 j x hj
 have W:=UC P b (i+1)
 have W0:=UC P b i
 refine⟨y,p,a1,a2,a3,a4,fun m hm=>?_⟩
 have base:atK ((wk P b (i+1)).2.1.map tI) (wk P b (i+1)).2.2 (tI x)=some (.tup [Jh y,.int p]):=by
  refine Zi4 (j:=(wk P b i).2.1.length+j) (Zkq W.nd) ?_ ?_
  ·rw[ZtT,QK,ZtJ (by omega),Nat.add_sub_cancel_left,hj];rfl
  ·rw[h1,ZtJ (by rw[W0.ln];omega),W0.ln,Nat.add_sub_cancel_left];exact a5
 have:=ZbS P b (i+1) base (m-(i+1))
 rw[show i+1+(m-(i+1))=m by omega] at this
 exact this
structure ZcC (ks:List (List Key)) (vs:List PV) (N:Nat) (ys:Nat->List Int) (ps:Nat->Int):Prop where
 up:∀t,t<N->atK ks vs (tI (ys t))=some (.tup [Jh (ys (t+1)),.int (ps t)])
 last:atK ks vs (tI (ys N))=some .non
noncomputable def unQ:PV->List Int
 |.tup xs=>xs.map fun x=>match x with
  |.int i=>i
  |_=>0
 |_=>[]
theorem ZiG (b:List Int):unQ (Jh b)=b:=by
 show (b.map PV.int).map (fun x=>match x with|PV.int i=>i|_=>0)=b
 rw[Zum]
 have:b.map ((fun x=>match x with|PV.int i=>i|_=>0)∘PV.int)=b.map id:=ZuI fun _ _=>rfl
 rw[this,ZvG]
noncomputable def Zjj (ks:List (List Key)) (vs:List PV):Nat->List Int->List Int
 |0,_=>[]
 |f+1,x=>match atK ks vs (tI x) with
  |some (.tup [y,.int p])=>p::Zjj ks vs f (unQ y)
  |_=>[]
theorem ZcC.org {ks:List (List Key)}{vs:List PV}{N:Nat}{ys:Nat->List Int}{ps:Nat->Int} (h:ZcC ks vs N ys ps):∀(f t:Nat),t<=N->N-t<f->Zjj ks vs f (ys t)=(List.range (N-t)).map fun k=>ps (t+k)
 |0,t,_,hf=>by omega
 |f+1,t,ht,hf=>by
  by_cases c:t=N
  ·subst c
   rw[Zjj,h.last,Zvj];rfl
  ·rw[Zjj,h.up t (by omega)]
   simp only
   rw[ZiG,ZcC.org h f (t+1) (by omega) (by omega),show N-t=(N-(t+1))+1 by omega,List.range_succ_eq_map,ZtP,Zum]
   congr 1
   exact ZuI fun k _=>by simp only[Function.comp_apply];congr 1;omega
noncomputable def Zck (b:List Int):List Int->List Int
 |[]=>b
 |p::ps=>Zck (UP b p) ps
theorem Zbt (b:List Int) (p:Int):∀ps,Zck b (ps++[p])=UP (Zck b ps) p:=by
 intro ps
 induction ps generalizing b with
 |nil=>rfl
 |cons q ps ih=>exact ih (UP b q)
structure ZmP (P b:List Int) (N:Nat) (pl:List Int) (o:List Int):Prop where
 len:pl.length=N
 ok:∀t,t<N->pl.getD t 0∈P/\0<(Zck b (pl.take t)).getD (pl.getD t 0).toNat 0
 led:Zck b pl=o
theorem ZdD {P b:List Int}:∀(N m:Nat) {o:List Int},N<=m->o∈(wk P b N).1->∃ys ps,ZcC ((wk P b m).2.1.map tI) (wk P b m).2.2 N ys ps/\ys 0=o/\ZmP P b N (((List.range N).map ps).reverse) o
 |0,m,o,_,ho=>by
  have e:o=b:=ZtQ.mp ho
  subst e
  exact⟨fun _=>o,fun _=>0,⟨fun t ht=>by omega,ZiE P o m⟩,rfl,⟨rfl,fun t ht=>by omega,rfl⟩⟩
 |N+1,m,o,hm,ho=>by
  obtain⟨y,p,a1,a2,a3,a4,a5⟩:=Zkh ho
  obtain⟨ys,ps,c,c0,pl⟩:=ZdD N m (by omega) a1
  refine⟨fun t=>match t with|0=>o|t+1=>ys t,fun t=>match t with|0=>p|t+1=>ps t,⟨fun t ht=>?_,c.last⟩,rfl, ?_⟩
  ·cases t with
   |zero=>rw[a5 m hm,<- c0]
   |succ t=>exact c.up t (by omega)
  ·have e:((List.range (N+1)).map fun t=>match t with|0=>p|t+1=>ps t).reverse=((List.range N).map ps).reverse++[p]:=by
    rw[List.range_succ_eq_map,ZtP,ZuP,Zum]
    rfl
   rw[e]
   have hl:=pl.len
   generalize ((List.range N).map ps).reverse=L at pl hl
   refine⟨by simp[hl],fun t ht=>?_,by rw[Zbt,pl.led,a4]⟩
   by_cases c:t<N
   ·obtain⟨q1,q2⟩:=pl.ok t c
    rw[show (L++[p]).getD t 0=L.getD t 0 by rw[Zt8,ZtI (by omega),<- Zt8],ZuK (by omega)]
    exact⟨q1,q2⟩
   ·have:t=N:=by omega
    subst this
    rw[show (L++[p]).getD t 0=p by rw[Zt8,ZtJ (by omega),hl,Zvj];rfl,ZuK (by omega),Zue (by omega),pl.led]
    exact⟨a2,a3⟩
noncomputable def goN (P b o:List Int):Nat:=((List.range 1001).find? fun i=>decide (o∈(wk P b i).2.1)).getD 0
section
variable {n:Nat}{s:Int}{P b o:List Int} (F:ZcB n s P b) (ho:Rch P b o)
include F ho
theorem Zlc:goN P b o<=1000/\o∈(wk P b (goN P b o)).2.1/\(∀j,j<goN P b o->o ∉ (wk P b j).2.1)/\o∈(wk P b (goN P b o)).1/\∀j,j<=goN P b o->(wk P b j).1≠[]:=by
 have hex:o∈(wk P b (wkN P b)).2.1:=F.mem.mpr ho
 have hw:=F.end
 have h0:∃q,goN P b o=q/\q<=1000/\o∈(wk P b q).2.1/\∀j,j<q->o ∉ (wk P b j).2.1:=by
  unfold goN
  cases hf:(List.range 1001).find? fun i=>decide (o∈(wk P b i).2.1) with
  |none =>
   have:=Zv4.mp hf (wkN P b) (Zug.mpr (by omega))
   exact absurd (decide_eq_true hex) this
  |some q =>
   obtain⟨q1,q2,q3⟩:=List.find?_range_eq_some.mp hf
   refine⟨q,rfl,by have:=Zug.mp q2;omega,of_decide_eq_true q1,fun j hj e=>?_⟩
   have:=q3 j hj
   simp[e] at this
 obtain⟨q,e,q1,q2,q3⟩:=h0
 rw[e]
 have hlv:o∈(wk P b q).1:=by
  cases q with
  |zero=>exact q2
  |succ q =>
   rw[QK] at q2
   rcases ZtD.mp q2 with c|c
   ·exact absurd c (q3 q (by omega))
   ·exact c
 refine⟨q1,q2,q3,hlv,fun j hj z=>?_⟩
 by_cases c:j=q
 ·rw[c] at z;rw[z] at hlv;cases hlv
 ·-- all sowings of the boards so far are there: nothing more comes
  have W:=UC P b j
  have key:∀{x:List Int},Rch P b x->x∈(wk P b j).2.1:=fun {x} hr=>by
   induction hr with
   |refl=>exact W.bg
   |step _ hp h0 ih =>
    rcases W.cl _ ih with c|c
    ·rw[z] at c;cases c
    ·exact c _ hp h0
  exact q3 j (by omega) (key ho)
end
noncomputable abbrev DQ:=List (List Int)×List (List Int)
structure Dq (R:List Int->Prop) (M0:List (List Int)) (st:DQ):Prop where
 app:st.2=M0++st.1
 nd:st.2.Nodup
 re:∀z∈st.1,R z
section
end
theorem ZbV {L:List (List Int)} (h:L.Nodup):(ZdP L).Pairwise fun a b=>HT.ZL a b=true:=by
 have nd:(ZdP L).Nodup:=(JE L).nodup_iff.mpr h
 have up:=ZbU L
 generalize ZdP L=M at nd up
 induction M with
 |nil=>exact List.Pairwise.nil
 |cons x M ih =>
  obtain⟨n1,n2⟩:=ZuL.mp nd
  obtain⟨u1,u2⟩:=Zu3.mp up
  refine Zu3.mpr ⟨fun y hy=>?_,ih n2 u2⟩
  cases h1:HT.ZL x y with
  |true=>rfl
  |false=>exact absurd (HL.JH h1 (u1 y hy)) (fun e=>n1 (by rw[e];exact hy))
noncomputable def llQ (L:List (List Int)):PV:=.lst (L.map Vp)
end My
namespace My
open PySem L2
set_option hygiene false
local macro_rules | `(tactic| walk_at "pu")=>`(tactic| try simp -implicitDefEqProofs only[ZfH,ZfI,Zv3,Zv5,ZuJ,ZuC,List.replicate_succ,List.replicate_zero,Zu2,Rr.bind_ok,Rr.bind_exc,Rr.bind_bad,Rr.thenS_ok,RS.seq_next,RS.seq_ret,RS.seq_exc,RS.out_next,RS.out_ret,RS.out_exc,
 Zfs,Zfc,Zie,Zif,Zil,Zim,ZfK,ZfJ,Zi5,Zg3,Zg4,Zik,Zij,Zii,Zih,Zig,Zd0,Zd1,Zdz,Zdy,Zfl,Zax,Zbm,Zbj,Zua,ZuO,Bool.not_true,Bool.not_false,Bool.false_eq_true,if_true,if_false,Nat.reduceAdd,Nat.reduceSub,id,ZtP,ZuY,Int.reduceToNat,QU,Qp,ZkH,Zis,Zir,Zd2,Zdp,Nat.reduceLeDiff,ZtE,Int.reduceLT,Int.reduceLE,Int.reduceEq,decide_true,decide_false])
set_option hygiene true
seal PE PT PA PS PSs DE DT DAA DAF DS
noncomputable def top (i:Nat):Stmt:=PySem.Challenge.pw_sowring_k26_whole_way_or_bar.main.body.getD i (.Pass ⟨0,0,0,0⟩)
noncomputable abbrev Zn4:Stmt:=top 36
theorem Zr6:Zz ["script", "k"] ["script", "k"] (Zh Zn4):=⟨rfl,rfl,rfl,by decide +kernel,rfl,by decide +kernel,by decide +kernel⟩
theorem Zpg:Zt "_law_cell_at" Zn4 ["script", "k"]:=fun _ _ _ _ _ _ us hl=>by obtain⟨_,_,rfl⟩:=us2 hl;rfl
noncomputable abbrev Zn3:Stmt:=top 38
theorem ZpU:Zz ["cell", "j", "first"] ["cell", "j"] (Zh Zn3):=⟨rfl,rfl,rfl,by decide +kernel,rfl,by decide +kernel,by decide +kernel⟩
theorem ZoB:Zt "_law_stirred" Zn3 ["cell", "j"]:=fun _ _ _ _ _ _ us hl=>by obtain⟨_,_,rfl⟩:=us2 hl;rfl
noncomputable abbrev Zo3:Stmt:=top 42
theorem ZoE:Zz ["script", "cell", "pits", "seeds"] ["script"] (Zh Zo3):=⟨rfl,rfl,rfl,by decide +kernel,rfl,by decide +kernel,by decide +kernel⟩
theorem ZsW:Zt "_law_few" Zo3 ["script"]:=fun _ _ _ _ _ _ us hl=>by obtain⟨_,rfl⟩:=us1 hl;rfl
noncomputable abbrev Zob:Stmt:=top 37
theorem ZoK:Zz ["script", "later", "most", "sums", "k", "at"] ["script", "later", "most"] (Zh Zob):=⟨rfl,rfl,rfl,by decide +kernel,rfl,by decide +kernel,by decide +kernel⟩
theorem Zs6:Zt "_law_sums" Zob ["script", "later", "most"]:=fun _ _ _ _ _ _ us hl=>by obtain⟨_,_,_,rfl⟩:=us3 hl;rfl
noncomputable abbrev Zo1:Stmt:=top 39
theorem ZnU:Zz ["script", "skip", "many", "base", "mixed", "sums", "total", "row", "j"] ["script", "skip", "many", "base", "mixed"] (Zh Zo1):=⟨rfl,rfl,rfl,by decide +kernel,rfl,by decide +kernel,by decide +kernel⟩
theorem ZsU:Zt "_law_row" Zo1 ["script", "skip", "many", "base", "mixed"]:=fun _ _ _ _ _ _ us hl=>by obtain⟨_,_,_,_,_,rfl⟩:=us5 hl;rfl
noncomputable abbrev Zoe:Stmt:=top 41
theorem ZpV:Zz ["places", "pits", "board", "at"] ["places", "pits"] (Zh Zoe):=⟨rfl,rfl,rfl,by decide +kernel,rfl,by decide +kernel,by decide +kernel⟩
theorem Zs8:Zt "_law_laid" Zoe ["places", "pits"]:=fun _ _ _ _ _ _ us hl=>by obtain⟨_,_,rfl⟩:=us2 hl;rfl
noncomputable abbrev Zof:Stmt:=top 43
theorem ZoL:Zz ["script", "pits", "cell", "bars"] ["script", "pits"] (Zh Zof):=⟨rfl,rfl,rfl,by decide +kernel,rfl,by decide +kernel,by decide +kernel⟩
theorem Zs9:Zt "_law_bars" Zof ["script", "pits"]:=fun _ _ _ _ _ _ us hl=>by obtain⟨_,_,rfl⟩:=us2 hl;rfl
noncomputable abbrev Zoz:Stmt:=top 11
theorem ZsE:Zz ["value"] ["value"] (Zh Zoz):=⟨rfl,rfl,rfl,by decide +kernel,rfl,by decide +kernel,by decide +kernel⟩
theorem ZsS:Zt "is_whole" Zoz ["value"]:=fun _ _ _ _ _ _ us hl=>by obtain⟨_,rfl⟩:=us1 hl;rfl
noncomputable abbrev Znw:Stmt:=top 12
theorem Zr3:Zz ["value", "least"] ["value", "least"] (Zh Znw):=⟨rfl,rfl,rfl,by decide +kernel,rfl,by decide +kernel,by decide +kernel⟩
theorem ZpP:Zt "is_whole_from" Znw ["value", "least"]:=fun _ _ _ _ _ _ us hl=>by obtain⟨_,_,rfl⟩:=us2 hl;rfl
noncomputable abbrev Znm:Stmt:=top 13
theorem ZoD:Zz ["values"] ["values"] (Zh Znm):=⟨rfl,rfl,rfl,by decide +kernel,rfl,by decide +kernel,by decide +kernel⟩
theorem ZpR:Zt "is_list_from_nought" Znm ["values"]:=fun _ _ _ _ _ _ us hl=>by obtain⟨_,rfl⟩:=us1 hl;rfl
noncomputable abbrev ZnN:Stmt:=top 10
theorem ZrX:Zz [] [] (Zh ZnN):=⟨rfl,rfl,rfl,by decide +kernel,rfl,by decide +kernel,by decide +kernel⟩
theorem Zsm:Zt "most_seeds" ZnN []:=fun _ _ _ _ _ _ us hl=>match us,hl with | [],_=>rfl
noncomputable abbrev Zo0:Stmt:=top 14
theorem ZsF:Zz ["board"] ["board"] (Zh Zo0):=⟨rfl,rfl,rfl,by decide +kernel,rfl,by decide +kernel,by decide +kernel⟩
theorem ZsT:Zt "is_board" Zo0 ["board"]:=fun _ _ _ _ _ _ us hl=>by obtain⟨_,rfl⟩:=us1 hl;rfl
noncomputable abbrev ZnB:Stmt:=top 15
theorem ZrN:Zz ["board"] ["board"] (Zh ZnB):=⟨rfl,rfl,rfl,by decide +kernel,rfl,by decide +kernel,by decide +kernel⟩
theorem ZrT:Zt "check_board" ZnB ["board"]:=fun _ _ _ _ _ _ us hl=>by obtain⟨_,rfl⟩:=us1 hl;rfl
noncomputable abbrev ZnZ:Stmt:=top 18
theorem Zrz:Zz ["numbers"] ["numbers"] (Zh ZnZ):=⟨rfl,rfl,rfl,by decide +kernel,rfl,by decide +kernel,by decide +kernel⟩
theorem Zs4:Zt "is_rising" ZnZ ["numbers"]:=fun _ _ _ _ _ _ us hl=>by obtain⟨_,rfl⟩:=us1 hl;rfl
noncomputable abbrev Zpk:Stmt:=top 16
theorem Ztr:Zz ["board", "pit"] ["board", "pit"] (Zh Zpk):=⟨rfl,rfl,rfl,by decide +kernel,rfl,by decide +kernel,by decide +kernel⟩
theorem Ztv:Zt "is_pit" Zpk ["board", "pit"]:=fun _ _ _ _ _ _ us hl=>by obtain⟨_,_,rfl⟩:=us2 hl;rfl
noncomputable abbrev Zn2:Stmt:=top 19
theorem ZpT:Zz ["board", "barred"] ["board", "barred"] (Zh Zn2):=⟨rfl,rfl,rfl,by decide +kernel,rfl,by decide +kernel,by decide +kernel⟩
theorem ZrI:Zt "check_barred" Zn2 ["board", "barred"]:=fun _ _ _ _ _ _ us hl=>by obtain⟨_,_,rfl⟩:=us2 hl;rfl
noncomputable abbrev ZnC:Stmt:=top 17
theorem ZrO:Zz ["board", "other"] ["board", "other"] (Zh ZnC):=⟨rfl,rfl,rfl,by decide +kernel,rfl,by decide +kernel,by decide +kernel⟩
theorem ZrU:Zt "check_alike" ZnC ["board", "other"]:=fun _ _ _ _ _ _ us hl=>by obtain⟨_,_,rfl⟩:=us2 hl;rfl
noncomputable abbrev Zn1:Stmt:=top 21
theorem Zo5:Zz ["pits", "seeds", "count", "k"] ["pits", "seeds"] (Zh Zn1):=⟨rfl,rfl,rfl,by decide +kernel,rfl,by decide +kernel,by decide +kernel⟩
theorem ZrH:Zt "count_boards" Zn1 ["pits", "seeds"]:=fun _ _ _ _ _ _ us hl=>by obtain⟨_,_,rfl⟩:=us2 hl;rfl
noncomputable abbrev Znp:Stmt:=top 26
theorem Zqy:Zz ["board"] ["board"] (Zh Znp):=⟨rfl,rfl,rfl,by decide +kernel,rfl,by decide +kernel,by decide +kernel⟩
theorem ZqO:Zt "check_few_boards" Znp ["board"]:=fun _ _ _ _ _ _ us hl=>by obtain⟨_,rfl⟩:=us1 hl;rfl
noncomputable abbrev Zoa:Stmt:=top 33
theorem ZpS:Zz ["board", "barred"] ["board", "barred"] (Zh Zoa):=⟨rfl,rfl,rfl,by decide +kernel,rfl,by decide +kernel,by decide +kernel⟩
theorem Zs5:Zt "free_pits" Zoa ["board", "barred"]:=fun _ _ _ _ _ _ us hl=>by obtain⟨_,_,rfl⟩:=us2 hl;rfl
noncomputable abbrev ZoM:Stmt:=top 23
theorem Zow:Zz ["board", "pit", "pits", "rounds", "over", "other", "last", "step"] ["board", "pit"] (Zh ZoM):=⟨rfl,rfl,rfl,by decide +kernel,rfl,by decide +kernel,by decide +kernel⟩
theorem Ztk:Zt "sow_pit" ZoM ["board", "pit"]:=fun _ _ _ _ _ _ us hl=>by obtain⟨_,_,rfl⟩:=us2 hl;rfl
noncomputable abbrev ZnL:Stmt:=top 28
theorem Zp8:Zz ["board", "pits"] ["board", "pits"] (Zh ZnL):=⟨rfl,rfl,rfl,by decide +kernel,rfl,by decide +kernel,by decide +kernel⟩
theorem Zsk:Zt "sowings_of" ZnL ["board", "pits"]:=fun _ _ _ _ _ _ us hl=>by obtain⟨_,_,rfl⟩:=us2 hl;rfl
noncomputable abbrev ZnM:Stmt:=top 27
theorem ZoS:Zz ["level", "pits", "came_from", "found", "board", "step"] ["level", "pits", "came_from"] (Zh ZnM):=⟨rfl,rfl,rfl,by decide +kernel,rfl,by decide +kernel,by decide +kernel⟩
theorem Zsl:Zt "next_level" ZnM ["level", "pits", "came_from"]:=fun _ _ _ _ _ _ us hl=>by obtain⟨_,_,_,rfl⟩:=us3 hl;rfl
noncomputable abbrev ZnY:Stmt:=top 32
theorem ZoI:Zz ["board", "barred", "pits", "came_from", "level"] ["board", "barred"] (Zh ZnY):=⟨rfl,rfl,rfl,by decide +kernel,rfl,by decide +kernel,by decide +kernel⟩
theorem Zs3:Zt "walk_from" ZnY ["board", "barred"]:=fun _ _ _ _ _ _ us hl=>by obtain⟨_,_,rfl⟩:=us2 hl;rfl
noncomputable abbrev Znv:Stmt:=top 30
theorem ZpN:Zz ["boards"] ["boards"] (Zh Znv):=⟨rfl,rfl,rfl,by decide +kernel,rfl,by decide +kernel,by decide +kernel⟩
theorem Zr5:Zt "rising_boards" Znv ["boards"]:=fun _ _ _ _ _ _ us hl=>by obtain⟨_,rfl⟩:=us1 hl;rfl
noncomputable abbrev ZoN:Stmt:=top 29
theorem Zqv:Zz ["goal", "came_from", "plan", "origin"] ["goal", "came_from"] (Zh ZoN):=⟨rfl,rfl,rfl,by decide +kernel,rfl,by decide +kernel,by decide +kernel⟩
theorem Ztl:Zt "plan_to" ZoN ["goal", "came_from"]:=fun _ _ _ _ _ _ us hl=>by obtain⟨_,_,rfl⟩:=us2 hl;rfl
noncomputable abbrev ZnK:Stmt:=top 34
theorem ZqY:Zz ["board", "other", "barred", "came_from"] ["board", "other", "barred"] (Zh ZnK):=⟨rfl,rfl,rfl,by decide +kernel,rfl,by decide +kernel,by decide +kernel⟩
theorem Zsj:Zt "way_or_bar" ZnK ["board", "other", "barred"]:=fun _ _ _ _ _ _ us hl=>by obtain⟨_,_,_,rfl⟩:=us3 hl;rfl
noncomputable abbrev Zoc:Stmt:=top 40
theorem Zox:Zz ["board", "pit", "pits", "seeds", "made", "k", "at"] ["board", "pit"] (Zh Zoc):=⟨rfl,rfl,rfl,by decide +kernel,rfl,by decide +kernel,by decide +kernel⟩
theorem Zr1:Zt "_law_sown" Zoc ["board", "pit"]:=fun _ _ _ _ _ _ us hl=>by obtain⟨_,_,rfl⟩:=us2 hl;rfl
noncomputable abbrev ZnD:Stmt:=top 44
theorem Zpl:Zz ["board", "bars", "told", "pit"] ["board", "bars"] (Zh ZnD):=⟨rfl,rfl,rfl,by decide +kernel,rfl,by decide +kernel,by decide +kernel⟩
theorem Zqx:Zt "_law_behind" ZnD ["board", "bars"]:=fun _ _ _ _ _ _ us hl=>by obtain⟨_,_,rfl⟩:=us2 hl;rfl
noncomputable abbrev Zod:Stmt:=top 46
theorem Zoy:Zz ["boards", "board", "other", "bars", "met", "one", "pair", "k"] ["boards", "board", "other", "bars"] (Zh Zod):=⟨rfl,rfl,rfl,by decide +kernel,rfl,by decide +kernel,by decide +kernel⟩
theorem Zs7:Zt "_law_shut" Zod ["boards", "board", "other", "bars"]:=fun _ _ _ _ _ _ us hl=>by obtain⟨_,_,_,_,rfl⟩:=us4 hl;rfl
noncomputable abbrev Zo2:Stmt:=top 45
theorem Zp9:Zz ["board", "plan", "bars", "here", "deed"] ["board", "plan", "bars"] (Zh Zo2):=⟨rfl,rfl,rfl,by decide +kernel,rfl,by decide +kernel,by decide +kernel⟩
theorem ZsV:Zt "_law_led" Zo2 ["board", "plan", "bars"]:=fun _ _ _ _ _ _ us hl=>by obtain⟨_,_,_,rfl⟩:=us3 hl;rfl
noncomputable abbrev ZnO:Stmt:=top 47
theorem ZrY:Zz ["told", "board", "other", "bars"] ["told", "board", "other", "bars"] (Zh ZnO):=⟨rfl,rfl,rfl,by decide +kernel,rfl,by decide +kernel,by decide +kernel⟩
theorem Zsn:Zt "_law_right" ZnO ["told", "board", "other", "bars"]:=fun _ _ _ _ _ _ us hl=>by obtain⟨_,_,_,_,rfl⟩:=us4 hl;rfl
noncomputable abbrev Zsq:Stmt:=top 48
theorem ZoJ:Zz ["script", "pits", "seeds", "row", "board", "other", "bars", "k", "some", "handed", "told", "kept", "again"] ["script"] (Zh Zsq):=⟨rfl,rfl,rfl,by decide +kernel,rfl,by decide +kernel,by decide +kernel⟩
theorem Zt6:Zt "law" Zsq ["script"]:=fun _ _ _ _ _ _ us hl=>by obtain⟨_,rfl⟩:=us1 hl;rfl
noncomputable abbrev XN:List Str:=["SowError", "BadBoard", "BadPits", "Unlike", "TooMany"]
noncomputable abbrev Zc9:List (Str×Str×Bool):=[("SowError", "SowError",true),("BadBoard", "SowError",true),("BadPits", "SowError",true),("Unlike", "SowError",true),("TooMany", "SowError",true)]
noncomputable abbrev ZcA:List (Str×Str×Bool):=[("SowError", "BadBoard",false),("BadBoard", "BadBoard",true),("BadPits", "BadBoard",false),("Unlike", "BadBoard",false),("TooMany", "BadBoard",false)]
noncomputable abbrev Zew:List (Str×Str×Bool):=[("SowError", "BadPits",false),("BadBoard", "BadPits",false),("BadPits", "BadPits",true),("Unlike", "BadPits",false),("TooMany", "BadPits",false)]
noncomputable abbrev Zg7:List (Str×Str×Bool):=[("SowError", "Unlike",false),("BadBoard", "Unlike",false),("BadPits", "Unlike",false),("Unlike", "Unlike",true),("TooMany", "Unlike",false)]
noncomputable abbrev Zev:List (Str×Str×Bool):=[("SowError", "TooMany",false),("BadBoard", "TooMany",false),("BadPits", "TooMany",false),("Unlike", "TooMany",false),("TooMany", "TooMany",true)]
noncomputable abbrev XS:List (Str×Str×Bool):=Zc9++ZcA++Zew++Zg7++Zev
noncomputable abbrev XR:List Str:=["SowError", "BadBoard", "BadPits", "Unlike", "TooMany"]
structure Txt (K:PySem.W.Frag) (mg:Str->Option Value):Prop where
 Zpy:Dfn K mg "_law_cell_at" Zn4
 ZoH:Dfn K mg "_law_stirred" Zn3
 Ztj:Dfn K mg "_law_few" Zo3
 ZsO:Dfn K mg "_law_sums" Zob
 Zth:Dfn K mg "_law_row" Zo1
 ZsQ:Dfn K mg "_law_laid" Zoe
 ZsR:Dfn K mg "_law_bars" Zof
 Ztf:Dfn K mg "is_whole" Zoz
 Zql:Dfn K mg "is_whole_from" Znw
 Zqm:Dfn K mg "is_list_from_nought" Znm
 Zs1:Dfn K mg "most_seeds" ZnN
 Ztg:Dfn K mg "is_board" Zo0
 Zsh:Dfn K mg "check_board" ZnB
 ZsM:Dfn K mg "is_rising" ZnZ
 Zty:Dfn K mg "is_pit" Zpk
 ZrS:Dfn K mg "check_barred" Zn2
 Zsi:Dfn K mg "check_alike" ZnC
 ZrR:Dfn K mg "count_boards" Zn1
 Zra:Dfn K mg "check_few_boards" Znp
 ZsN:Dfn K mg "free_pits" Zoa
 Ztt:Dfn K mg "sow_pit" ZoM
 Zsz:Dfn K mg "sowings_of" ZnL
 Zs0:Dfn K mg "next_level" ZnM
 ZsL:Dfn K mg "walk_from" ZnY
 ZrF:Dfn K mg "rising_boards" Znv
 Ztu:Dfn K mg "plan_to" ZoN
 Zsy:Dfn K mg "way_or_bar" ZnK
 ZrG:Dfn K mg "_law_sown" Zoc
 Zrb:Dfn K mg "_law_behind" ZnD
 ZsP:Dfn K mg "_law_shut" Zod
 Zti:Dfn K mg "_law_led" Zo2
 Zs2:Dfn K mg "_law_right" ZnO
 Zt7:Dfn K mg "law" Zsq
 c_FEWEST_PITS:∃t,mg "FEWEST_PITS"=some (.int 2 t)
 c_MOST_BOARDS:∃t,mg "MOST_BOARDS"=some (.int 1000 t)
 c_MOST_PITS:∃t,mg "MOST_PITS"=some (.int 24 t)
 z_all:mg "all"=none
 z_bool:mg "bool"=none
 z_int:mg "int"=none
 z_isinstance:mg "isinstance"=none
 z_len:mg "len"=none
 z_list:mg "list"=none
 z_max:mg "max"=none
 z_min:mg "min"=none
 z_range:mg "range"=none
 z_sorted:mg "sorted"=none
 z_sum:mg "sum"=none
 z_tuple:mg "tuple"=none
 x_tab:Zmz K XN XS=true
 x_exc:ZiA K XR=true
 x_mg:∀n C,ZjP K n C->mg n=some (.ref C)
section
variable {P:Program}{w:World}{K:W.Frag}{mg:Str->Option Value}{base:Heap}
theorem Ue:PyData.canLay0 (.str "barred")=true:=by rw[PyData.canLay0];decide +kernel
theorem Ziu:PyData.canLay0 (.str "sow")=true:=by rw[PyData.canLay0];decide +kernel
theorem Zdt:PyData.canLay0 (.str "way")=true:=by rw[PyData.canLay0];decide +kernel
theorem UF {g:Bool->Bool}:US g (.str "barred") (.str "barred")=.ok (.bl (g true)):=Qt Ue Ue
theorem Za7 {g:Bool->Bool}:US g (.str "barred") (.str "way")=.ok (.bl (g false)):=Qt Ue Zdt
theorem Zed {g:Bool->Bool}:US g (.str "sow") (.str "sow")=.ok (.bl (g true)):=Qt Ziu Ziu
theorem Za6 {g:Bool->Bool}:US g (.str "way") (.str "barred")=.ok (.bl (g false)):=Qt Zdt Ue
theorem Zec {g:Bool->Bool}:US g (.str "way") (.str "way")=.ok (.bl (g true)):=Qt Zdt Zdt
set_option hygiene false
local macro_rules | `(tactic| walk_at "pd")=>`(tactic| try simp -implicitDefEqProofs (disch:=first|omega|(simp only[ZtG,Zus,ZuM,List.length_replicate,Zua,ZuO,ZtR,Zu5,List.length_range,Jp];omega)|decide) only[ZfH,ZfI,Zv3,Zv5,ZuJ,ZuC,ZeO,ZeN,Zu2,Rr.bind_ok,Rr.bind_exc,Rr.bind_bad,Rr.thenS_ok,RS.seq_next,RS.seq_ret,RS.seq_exc,RS.out_next,RS.out_ret,RS.out_exc,
 Zfs,Zfc,Zie,Zif,Zil,Zim,ZfK,ZfJ,Zh5,Zh6,Zi5,Zg3,ZkC,Zg4,Zik,Zij,Zii,Zhl,Zih,Zig,Zd0,Zd1,Zdz,Zdy,Zfl,Zax,Zji,Zbm,Zjg,Zme,Zmf,Zbj,Zua,ZuO,Bool.not_true,Bool.not_false,Bool.false_eq_true,if_true,if_false,Nat.reduceAdd,Nat.reduceSub,id,ZtP,ZuY,Int.reduceToNat,QU,Qp,ZkH,Zis,Zir,Zmv,Zd2,Zdp,Nat.reduceLeDiff,ZtE,Int.reduceLT,Int.reduceLE,Int.reduceEq,decide_true,decide_false,
 UR,Qo,Zbo,Zfr,Zhj,Zdf,Zhg,Zf6,QS,Qv,Zlz,ZhN,Zht,Zhs,Zhr,beq_self_eq_true,Bool.and_true,Bool.true_and,Bool.and_false,Bool.false_and,ZkB,UF,Za7,Zed,Za6,Zec])
set_option hygiene true
noncomputable def Znz:Pm:=⟨List Int×Int,fun a=>[.lst (a.1.map PV.int),.int a.2],fun a=>0<=a.2,fun a=>.ok (.int (Ja a.1 a.2.toNat))⟩
theorem ZoX (T:Txt K mg) {f:Addr}{fd:FuncData} (F:Fun K "_law_cell_at" "_law_cell_at" Zn4 f fd):JB P w K mg base CX0 1 f fd ["script", "k"] (spF K 2 .P W0 Znz.fn):=by
 refine F.okP Zr6 rfl rfl (fun cdv A outer s H E hr=>?_)
 have hu:=hr.units
 refine⟨_,_,⟨[],[],[],.P⟩,rfl,(Zg (Jm (Zy Zay (pv 1) (Zo (Zw (K:=K)) rfl T.z_len ZY (Za (pv 0) Zf)) (Z9 _)) (Zl (Z3 (Z6 ZS (ZC (Zp (K:=K)) (pv 0) (pv 1) (fun _ _=>rfl)) (Z6 Zbp Zi Zi)))) ZA)
   (Zl (Z3 Zi))),
   (Zm (Γm:=[.S,.S]) (Jo (Zv (DE.toA (Zb9 (Zc (i:=1) (m:=.S) rfl (by decide)) (DE.toA (ZW (Zb (Zc (i:=0) (m:=.S) rfl (by decide)) Zd))))))
   (ZH (ZV (Zx (te:=tC .non) (Zc (i:=0) (m:=.S) rfl (by decide)) (Zc (i:=1) (m:=.S) rfl (by decide))) (DE.toA (Zb8 (DE.toA Zj) (DE.toA Zj)))))
   ZB)
   (ZH Zj)), ?_⟩
 refine Pm.ref Znz (g:=fun xs=>_) ?_
 rintro⟨ns,k⟩ (hk:0<=k)
 simp only[Znz]
 walk_at "pd"
 unfold Ja
 by_cases h:k<ns.length
 ·rw[decide_eq_true h]
  walk_at "pd"
 ·rw[decide_eq_false h]
  walk_at "pd"
  rw[ZaA (by omega)];rfl
theorem Znr {ns:List Int}{k:Int} (h:0<=k):Znz.fn [.lst (ns.map PV.int),.int k]=.ok (.int (Ja ns k.toNat)):=Pm.fn_eq Znz (ns,k) h fun(a:List Int×Int) e=>by (simp only[Znz,List.cons.injEq,PV.lst.injEq,PV.int.injEq,PV.str.injEq,PV.bl.injEq,PV.tup.injEq,ZI,and_true] at e ⊢;first|(simp only[e];done)|(subst e;rfl)|(rw[e]))
noncomputable def Zny:Pm:=⟨Int×Int,fun a=>[.int a.1,.int a.2],fun a=>0<=a.2/\a.2<=1000000,fun a=>.ok (.int (stir a.1 a.2))⟩
theorem Zo8 (T:Txt K mg) {f:Addr}{fd:FuncData} (F:Fun K "_law_stirred" "_law_stirred" Zn3 f fd):JB P w K mg base CX0 1 f fd ["cell", "j"] (spF K 2 .P W0 Zny.fn):=by
 refine F.okP ZpU rfl rfl (fun cdv A outer s H E hr=>?_)
 have hu:=hr.units
 refine⟨_,_,⟨[],[],[],.P⟩,rfl,(Zg (Z2 (i:=2) ZpU.nd rfl (by first|exact Or.inl rfl|exact Or.inr rfl) (Z6 ZS (Z6 U1 (Z6 J6 (Z6 J6 (Z6 ZS (pv 0) Zi) (Z6 U1 Zi (pv 1))) Zi) Zi) Zi))
   (Zl (Z3 (Z6 Jz (Z6 ZS (Z6 U1 (pv 2) (pv 2)) Zi) Zi)))),
   (Zm (Γm:=[.S,.S,.P]) (ZQ (i:=2) (ZV (DE.toA (Zaf (DE.toA (J8 (DE.toA (J8 (DE.toA (ZV (Zc (i:=0) (m:=.S) rfl (by decide)) (DE.toA Zj))) (DE.toA (Zaf (DE.toA Zj) (Zc (i:=1) (m:=.S) rfl (by decide)))))) (DE.toA Zj))) (DE.toA Zj))) (DE.toA Zj)) (by decide))
   (ZH (VL (DE.toA (ZV (DE.toA (Zaf (DE.toA (Zk (i:=2) rfl)) (DE.toA (Zk (i:=2) rfl)))) (DE.toA Zj))) (DE.toA Zj)))), ?_⟩
 refine Pm.ref Zny (g:=fun xs=>_) ?_
 rintro⟨c,j⟩ ⟨h0,h1⟩
 simp only at h0 h1
 simp only[Zny]
 walk_at "pd"
 rfl
theorem Znt {c j:Int} (h:0<=j/\j<=1000000):Zny.fn [.int c,.int j]=.ok (.int (stir c j)):=Pm.fn_eq Zny (c,j) h fun(a:Int×Int) e=>by (simp only[Zny,List.cons.injEq,PV.lst.injEq,PV.int.injEq,PV.str.injEq,PV.bl.injEq,PV.tup.injEq,ZI,and_true] at e ⊢;first|(simp only[e];done)|(subst e;rfl)|(rw[e]))
noncomputable def fwP (c:Int):Int:=if c%4=1 then 6+c/4%5 else 2+c/4%4
noncomputable def fwS (c:Int):Int:=if c%4=1 then stir c 5%4 else stir c 5%([0,0,41,11,7,5]:List Int).getD (2+c/4%4).toNat 0
noncomputable def Zoj:Pm:=⟨List Int,fun a=>[.lst (a.map PV.int)],fun _=>True,fun a=>.ok (.tup [.int (fwP (Ja a 0)),.int (fwS (Ja a 0))])⟩
theorem ZsK (T:Txt K mg) {f:Addr}{fd:FuncData} (F:Fun K "_law_few" "_law_few" Zo3 f fd):JB P w K mg base CX0 2 f fd ["script"] (spF K 1 .P W0 Zoj.fn):=by
 have Znu:=Vz (P:=P) (w:=w) (base:=base) T.Zpy Zpg (fun F=>ZoX T F)
 have ZnA:=Vz (P:=P) (w:=w) (base:=base) T.ZoH ZoB (fun F=>Zo8 T F)
 refine F.okP ZoE rfl rfl (fun cdv A outer s H E hr=>?_)
 have hu:=hr.units
 refine⟨_,_,⟨[],[],[],.P⟩,rfl,(Zg (Z2 (i:=1) ZoE.nd rfl (by first|exact Or.inl rfl|exact Or.inr rfl) (Zr Znu (hr.mono (by decide)) rfl (Za (pv 0) (Za Zi Zf))))
   (Zg (Z2 (i:=2) ZoE.nd rfl (by first|exact Or.inl rfl|exact Or.inr rfl) (Z6 J6 Zi (Z6 ZS (Z6 Jz (pv 1) Zi) Zi)))
   (Zg (Z2 (i:=3) ZoE.nd rfl (by first|exact Or.inl rfl|exact Or.inr rfl) (Z6 ZS (Zr ZnA (hr.mono (by decide)) rfl (Za (pv 1) (Za Zi Zf))) (ZC (Zp (K:=K)) (Va (Za Zi (Za Zi (Za Zi (Za Zi (Za Zi (Za Zi Zf))))))) (pv 2) (fun _ _=>rfl))))
   (Zg (Jm (Zy (J0 (K:=K) hu) (Z6 ZS (pv 1) Zi) Zi (Z9 _)) (Zg (Z2 (i:=2) ZoE.nd rfl (by first|exact Or.inl rfl|exact Or.inr rfl) (Z6 J6 Zi (Z6 ZS (Z6 Jz (pv 1) Zi) Zi)))
   (Zl (Z2 (i:=3) ZoE.nd rfl (by first|exact Or.inl rfl|exact Or.inr rfl) (Z6 ZS (Zr ZnA (hr.mono (by decide)) rfl (Za (pv 1) (Za Zi Zf))) Zi)))) ZA)
   (Zl (Z3 (VG (Za (pv 2) (Za (pv 3) Zf))))))))),
   (Zm (Γm:=[.S,.P,.U,.U]) (ZQ (i:=1) (Zah (Ze (Ze Zq)) (Zb (Zc (i:=0) (m:=.S) rfl (by decide)) (Zb (DE.toA Zj) Zd))) (by decide))
   (Zm (Γm:=[.S,.P,.P,.U]) (ZQ (i:=2) (J8 (DE.toA Zj) (DE.toA (ZV (DE.toA (VL (DE.toA (Zk (i:=1) rfl)) (DE.toA Zj))) (DE.toA Zj)))) (by decide))
   (Zm (Γm:=[.S,.P,.P,.P]) (ZQ (i:=3) (ZV (DE.toA (Zah (Ze (Ze Zq)) (Zb (DE.toA (Zk (i:=1) rfl)) (Zb (DE.toA Zj) Zd)))) (Zx (te:=tC .non) (DE.toA (JW (ZE (DE.PF Zj) (ZE (DE.PF Zj) (ZE (DE.PF Zj) (ZE (DE.PF Zj) (ZE (DE.PF Zj) (ZE (DE.PF Zj) Jq)))))))) (DE.toA (Zk (i:=2) rfl)))) (by decide))
   (Zm (Γm:=[.S,.P,.P,.P]) (Jo (Zv (DE.toA (ZX (g:=id) (DE.toA (ZV (DE.toA (Zk (i:=1) rfl)) (DE.toA Zj))) (DE.toA Zj))))
   (Zm (Γm:=[.S,.P,.P,.P]) (ZQ (i:=2) (J8 (DE.toA Zj) (DE.toA (ZV (DE.toA (VL (DE.toA (Zk (i:=1) rfl)) (DE.toA Zj))) (DE.toA Zj)))) (by decide))
   (ZQ (i:=3) (ZV (DE.toA (Zah (Ze (Ze Zq)) (Zb (DE.toA (Zk (i:=1) rfl)) (Zb (DE.toA Zj) Zd)))) (DE.toA Zj)) (by decide)))
   ZB)
   (ZH (DE.grd (Q8 (Zb (DE.toA (Zk (i:=2) rfl)) (Zb (DE.toA (Zk (i:=3) rfl)) Zd))))))))), ?_⟩
 refine Pm.ref Zoj (g:=fun xs=>_) ?_
 rintro(ns:List Int) -
 simp only[Zoj]
 walk_at "pd"
 rw[Znr (by omega)]
 walk_at "pd"
 generalize Ja ns 0=c
 rw[Znt ⟨by omega,by omega⟩]
 have hix:pIx (.lst [.int 0,.int 0,.int 41,.int 11,.int 7,.int 5]) (.int (2+c/4%4))=.ok (.int (([0,0,41,11,7,5]:List Int).getD (2+c/4%4).toNat 0)):=UR (ns:=[0,0,41,11,7,5]) (by omega) (by simp only[Zua,ZuO];omega)
 rw[hix]
 have hpos:0<([0,0,41,11,7,5]:List Int).getD (2+c/4%4).toNat 0:=by
  have:(2+c/4%4).toNat=2\/(2+c/4%4).toNat=3\/(2+c/4%4).toNat=4\/(2+c/4%4).toNat=5:=by omega
  rcases this with z|z|z|z<;>rw[z]<;>decide
 walk_at "pd"
 unfold fwP fwS
 by_cases e:c%4=1
 ·rw[decide_eq_true e,if_pos e,if_pos e]
  walk_at "pd"
  rw[Znt ⟨by omega,by omega⟩]
  walk_at "pd"
 ·rw[decide_eq_false e,if_neg e,if_neg e]
  walk_at "pd"
theorem Zp7 {ns:List Int}:Zoj.fn [.lst (ns.map PV.int)]=.ok (.tup [.int (fwP (Ja ns 0)),.int (fwS (Ja ns 0))]):=Pm.fn_eq Zoj ns trivial fun(a:List Int) e=>by (simp only[Zoj,List.cons.injEq,PV.lst.injEq,PV.int.injEq,PV.str.injEq,PV.bl.injEq,PV.tup.injEq,ZI,and_true] at e ⊢;first|(simp only[e];done)|(subst e;rfl)|(rw[e]))
noncomputable def ZnQ:Pm:=⟨List Int×Int×Int,fun a=>[.lst (a.1.map PV.int),.int a.2.1,.int a.2.2],fun a=>a.1.length<=1000/\(0<=a.2.1/\a.2.1<=1000)/\0<a.2.2/\a.2.2<=1000,fun a=>.ok (.lst ((ZbT a.1 a.2.1.toNat a.2.2.toNat).map PV.int))⟩
theorem Zsu (T:Txt K mg) {f:Addr}{fd:FuncData} (F:Fun K "_law_sums" "_law_sums" Zob f fd):JB P w K mg base CX0 1 f fd ["script", "later", "most"] (spF K 3 .F W0 ZnQ.fn):=by
 refine F.okP ZoK rfl rfl (fun cdv A outer s H E hr=>?_)
 have hu:=hr.units
 refine⟨_,_,⟨[],[],[],.F⟩,rfl,(Zg (Qh (i:=3) ZoK.nd rfl (Jf rfl T.z_range (Za (pv 2) Zf)) (Ql ZoK.nd) (fun _ _ _ _=>Zid) (fun _ _ _ _=>Zi) hv1 rfl)
   (Zg (J5 PassesOwn.never rfl (Qi rfl T.z_range (Za (pv 1) (Za (Zo (Zw (K:=K)) rfl T.z_len ZY (Za (pv 0) Zf)) Zf))) (Jg (i:=4) ZoK.nd rfl (by first|exact Or.inl rfl|exact Or.inr rfl)) (Zg (Z2 (i:=5) ZoK.nd rfl (by first|exact Or.inl rfl|exact Or.inr rfl) (Z6 ZS (Z6 Zft (pv 4) (pv 1)) (pv 2)))
   (Zg (U8 (Z6 J6 (Z6 U1 (ZC (Zp (K:=K)) (pv 3) (pv 5) (fun _ _=>rfl)) Zi) (Z6 ZS (ZC (Zp (K:=K)) (pv 0) (pv 4) (fun _ _=>rfl)) (Z6 Zbp Zi Zi))) (Qj (pv 3) (pv 5) JN))
   (Zl (U8 (Z6 ZS (ZC (Zp (K:=K)) (pv 3) (pv 5) (fun _ _=>rfl)) (Z6 Zbp Zi Zi)) (Qj (pv 3) (pv 5) JN))))))
   (Zl (Z3 (pv 3))))),
   (Zm (Γm:=[.S,.S,.S,.O,.U,.U]) (Q5 (i:=3) (Uo (k:=1) (DI.c (J4 (Zb (Zc (i:=2) (m:=.S) rfl (by decide)) Zd))) Zlx Ziz (DE.PF Zj)) (by decide))
   (Zm (Γm:=[.S,.S,.S,.O,.U,.U]) (J7 (Γl:=[.S,.S,.S,.O,.U,.U]) (Zcv (Zb (Zc (i:=1) (m:=.S) rfl (by decide)) (Zb (DE.toA (ZW (Zb (Zc (i:=0) (m:=.S) rfl (by decide)) Zd))) Zd))) rfl (Zep (i:=4) (by decide))
   (DS.out (Y:=⟨[.S,.S,.S,.O,.P,.P],[.S,.S,.S,.O,.U,.U],[.S,.S,.S,.O,.U,.U],.F⟩) (Y':=⟨[.S,.S,.S,.O,.U,.U],[.S,.S,.S,.O,.U,.U],[.S,.S,.S,.O,.U,.U],.F⟩) (Zm (Γm:=[.S,.S,.S,.O,.P,.P]) (ZQ (i:=5) (ZV (DE.toA (ZfX (DE.toA (Zk (i:=4) rfl)) (Zc (i:=1) (m:=.S) rfl (by decide)))) (Zc (i:=2) (m:=.S) rfl (by decide))) (by decide))
   (Zm (Γm:=[.S,.S,.S,.O,.P,.P]) (Vd (i:=3) rfl (J8 (DE.toA (Zaf (Zx (te:=tC .non) (Zc (i:=3) (m:=.O) rfl (by decide)) (DE.toA (Zk (i:=5) rfl))) (DE.toA Zj))) (DE.toA (ZV (Zx (te:=tC .non) (Zc (i:=0) (m:=.S) rfl (by decide)) (DE.toA (Zk (i:=4) rfl))) (DE.toA (Zb8 (DE.toA Zj) (DE.toA Zj)))))) (DE.toA (Zk (i:=5) rfl)))
   (Vd (i:=3) rfl (ZV (Zx (te:=tC .non) (Zc (i:=3) (m:=.O) rfl (by decide)) (DE.toA (Zk (i:=5) rfl))) (DE.toA (Zb8 (DE.toA Zj) (DE.toA Zj)))) (DE.toA (Zk (i:=5) rfl))))) rfl rfl rfl rfl))
   (ZU (JI (i:=3) rfl)))), ?_⟩
 refine Pm.ref ZnQ (g:=fun xs=>_) ?_
 rintro⟨ns,l,m⟩ ⟨hn,hl,h0,h1⟩
 simp only at hn hl h0 h1
 simp only[ZnQ]
 walk_at "pd"
 rw[Um (p:=fun _=>true) (g:=fun _=>.int 0) (fun i hi=>rfl)]
 rw[show ((List.range m.toNat).filter fun _=>true).map (fun _=>PV.int 0)=(VX ns l.toNat m.toNat 0).map PV.int by
  rw[show ((List.range m.toNat).filter fun _=>true)=List.range m.toNat from ZuW.mpr fun _ _=>rfl,VX,List.map_const',List.length_range,List.map_replicate]]
 walk_at "pd"
 generalize hw:UV _ _ _=W
 obtain⟨ρ',rfl,v,u,rfl⟩:=ZP hw (fun i ρ=>∃v u,ρ=[.lst (ns.map PV.int),.int l,.int m,.lst ((VX ns l.toNat m.toNat i).map PV.int),v,u]) ⟨_,_,rfl⟩ (by
  rintro i x ρ hx ⟨v,u,rfl⟩
  obtain⟨hi,rfl⟩:=J9 hx
  have hlen:(VX ns l.toNat m.toNat i).length=m.toNat:=Vx _ _ _ _
  have m0:=Zup (l+(i:Int)-l) (show m≠0 by omega)
  have m1:=Zud (l+(i:Int)-l) h0
  have e:((l+(i:Int)-l)%m).toNat=i%m.toNat:=by
   have:((i%m.toNat:Nat):Int)=(l+(i:Int)-l)%m:=by rw[Int.natCast_emod,Zu0 (by omega),show l+(i:Int)-l=i by omega]
   omega
  have hb:=Zj4 (P:=fun x=>0<=x/\x<10^62) (ZcR ns l.toNat m.toNat i) (by decide) ((l+(i:Int)-l)%m).toNat
  walk_at "pd"
  refine JG ⟨.int (l+(i:Int)),.int ((l+(i:Int)-l)%m), ?_⟩
  rw[List.set_set,L2.getD_set (by omega),if_pos rfl,VX,e,show (l+(i:Int)).toNat=l.toNat+i by omega])
 walk_at "pd"
 rw[Jp]
 unfold ZbT
 rw[show ((ns.length:Int)-l).toNat=ns.length-l.toNat by omega]
theorem Zpd {ns:List Int}{l m:Int} (h:ns.length<=1000/\(0<=l/\l<=1000)/\0<m/\m<=1000):ZnQ.fn [.lst (ns.map PV.int),.int l,.int m]=.ok (.lst ((ZbT ns l.toNat m.toNat).map PV.int)):=Pm.fn_eq ZnQ (ns,l,m) h fun(a:List Int×Int×Int) e=>by (simp only[ZnQ,List.cons.injEq,PV.lst.injEq,PV.int.injEq,PV.str.injEq,PV.bl.injEq,PV.tup.injEq,ZI,and_true] at e ⊢;first|(simp only[e];done)|(subst e;rfl)|(rw[e]))
noncomputable def Zoh:Pm:=⟨List Int×Int×Int×Int×Bool,fun a=>[.lst (a.1.map PV.int),.int a.2.1,.int a.2.2.1,.int a.2.2.2.1,.bl a.2.2.2.2],fun a=>a.1.length<=1000/\(0<=a.2.1/\a.2.1<=1000)/\(0<=a.2.2.1/\a.2.2.1<=1000)/\0<a.2.2.2.1/\a.2.2.2.1<=1000000,fun a=>.ok (.lst ((ZgT a.1 a.2.1 a.2.2.1 a.2.2.2.1 a.2.2.2.2).map PV.int))⟩
theorem ZsI (T:Txt K mg) {f:Addr}{fd:FuncData} (F:Fun K "_law_row" "_law_row" Zo1 f fd):JB P w K mg base CX0 2 f fd ["script", "skip", "many", "base", "mixed"] (spF K 5 .F W0 Zoh.fn):=by
 have Zta:=Vz (P:=P) (w:=w) (base:=base) T.ZsO Zs6 (fun F=>Zsu T F)
 have ZnA:=Vz (P:=P) (w:=w) (base:=base) T.ZoH ZoB (fun F=>Zo8 T F)
 refine F.okP ZnU rfl rfl (fun cdv A outer s H E hr=>?_)
 have hu:=hr.units
 refine⟨_,_,⟨[],[],[],.F⟩,rfl,(Zg (Jm (JO (pv 4)) (Zg (Z2 (i:=5) ZnU.nd rfl (by first|exact Or.inl rfl|exact Or.inr rfl) (Zr Zta (hr.mono (by decide)) rfl (Za (pv 0) (Za (pv 1) (Za (Zo (Zgr rfl) rfl T.z_max Zl4 (Za Zi (Za (pv 2) Zf))) Zf)))))
   (Zl (Z3 (Zav (Jf rfl T.z_range (Za (pv 2) Zf)) (Ql ZnU.nd) (fun _ _ _ _=>Zid) (fun _ _ _ _=>(Z6 ZS (Zr ZnA (hr.mono (by decide)) rfl (Za (ZC (Zp (K:=K)) (pv 5) (pv 9) (fun _ _=>rfl)) (Za (pv 9) Zf))) (pv 3))) hv1 ZnU.nd rfl)))) ZA)
   (Zg (Z2 (i:=6) ZnU.nd rfl (by first|exact Or.inl rfl|exact Or.inr rfl) (Zo (JK (K:=K) rfl) rfl T.z_sum QD (Za (U0 (Jk (K:=K) (Zat (Zaq (K:=K)) (pv 0) (Zca (pv 1)) Zcb)) (fun _ _ _ _=>(Z6 ZS (pv 9) (Z6 Zbp Zi Zi))) ZnU.nd rfl) Zf)))
   (Zg (Z2 (i:=7) ZnU.nd rfl (by first|exact Or.inl rfl|exact Or.inr rfl) (Va Zf))
   (Zg (J5 PassesOwn.never rfl (Jf rfl T.z_range (Za (pv 2) Zf)) (Jg (i:=8) ZnU.nd rfl (by first|exact Or.inl rfl|exact Or.inr rfl)) (Zg (J3 (ZdS PySem.F.plainAttrs_list PySem.F.slot_list_append PySem.F.type_list_append Vb (pv 7) (Za (Z6 ZS (pv 6) (pv 3)) Zf)))
   (Zl (Z2 (i:=6) ZnU.nd rfl (by first|exact Or.inl rfl|exact Or.inr rfl) (Z6 Jz (pv 6) (pv 3))))))
   (Zl (Z3 (pv 7))))))),
   (Zm (Γm:=[.S,.S,.S,.S,.S,.U,.U,.U,.U]) (Jo (Zb6 (Zc (i:=4) (m:=.S) rfl (by decide)))
   (Zm (Γm:=[.S,.S,.S,.S,.S,.O,.U,.U,.U]) (ZM (i:=5) (Zer (Ze (Ze (Ze Zq))) (Zb (Zc (i:=0) (m:=.S) rfl (by decide)) (Zb (Zc (i:=1) (m:=.S) rfl (by decide)) (Zb (DE.toA (ZjG (Zb (DE.toA Zj) (Zb (Zc (i:=2) (m:=.S) rfl (by decide)) Zd)))) Zd)))) (by decide))
   (ZU (Uo (k:=1) (DI.c (J4 (Zb (Zc (i:=2) (m:=.S) rfl (by decide)) Zd))) Zlx Ziz (DE.PF (ZV (DE.toA (Zah (Ze (Ze Zq)) (Zb (Zx (te:=tC .non) (Zc (i:=5) (m:=.O) rfl (by decide)) (Zc (i:=9) (m:=.S) rfl (by decide))) (Zb (Zc (i:=9) (m:=.S) rfl (by decide)) Zd)))) (Zc (i:=3) (m:=.S) rfl (by decide)))))))
   ZB)
   (Zm (Γm:=[.S,.S,.S,.S,.S,.U,.P,.U,.U]) (ZQ (i:=6) (Q9 (Zb (DE.toA (JU (DI.c (Jx (DE.FZ (ZfY (Zc (i:=0) (m:=.S) rfl (by decide)) (Zcr (Zc (i:=1) (m:=.S) rfl (by decide))) Zcs)))) (DE.PF (ZV (Zc (i:=9) (m:=.S) rfl (by decide)) (DE.toA (Zb8 (DE.toA Zj) (DE.toA Zj))))))) Zd)) (by decide))
   (Zm (Γm:=[.S,.S,.S,.S,.S,.U,.P,.O,.U]) (ZM (i:=7) (JW Jq) (by decide))
   (Zm (Γm:=[.S,.S,.S,.S,.S,.U,.P,.O,.U]) (J7 (Γl:=[.S,.S,.S,.S,.S,.U,.P,.O,.U]) (J4 (Zb (Zc (i:=2) (m:=.S) rfl (by decide)) Zd)) rfl (Zep (i:=8) (by decide))
   (DS.out (Y:=⟨[.S,.S,.S,.S,.S,.U,.P,.O,.P],[.S,.S,.S,.S,.S,.U,.P,.O,.U],[.S,.S,.S,.S,.S,.U,.P,.O,.U],.F⟩) (Y':=⟨[.S,.S,.S,.S,.S,.U,.P,.O,.U],[.S,.S,.S,.S,.S,.U,.P,.O,.U],[.S,.S,.S,.S,.S,.U,.P,.O,.U],.F⟩) (Zm (Γm:=[.S,.S,.S,.S,.S,.U,.P,.O,.P]) (ZaD (i:=7) rfl rfl (DE.PF (ZV (DE.toA (Zk (i:=6) rfl)) (Zc (i:=3) (m:=.S) rfl (by decide)))))
   (ZQ (i:=6) (VL (DE.toA (Zk (i:=6) rfl)) (Zc (i:=3) (m:=.S) rfl (by decide))) (by decide))) rfl rfl rfl rfl))
   (ZU (JI (i:=7) rfl)))))), ?_⟩
 refine Pm.ref Zoh (g:=fun xs=>_) ?_
 rintro⟨ns,sk,m,b,mx⟩ ⟨hn,hl,hm,h0,h1⟩
 simp only at hn hl hm h0 h1
 simp only[Zoh]
 walk_at "pd"
 unfold ZgT
 cases mx with
 |true =>
  rw[if_pos rfl]
  walk_at "pd"
  rw[show (if m>1 then m else 1)=((max 1 m.toNat:Nat):Int) by split<;>omega]
  rw[Zpd ⟨hn,hl,by omega,by omega⟩,ZtZ]
  walk_at "pd"
  rw[Um (p:=fun _=>true) (g:=fun j=>.int (stir ((ZbT ns sk.toNat (max 1 m.toNat)).getD j 0) j%b)) (fun i hi=>by
   have hlen:(ZbT ns sk.toNat (max 1 m.toNat)).length=max 1 m.toNat:=ZaY _ _ _
   rw[ZuG]
   walk_at "pd"
   rw[Znt ⟨by omega,by omega⟩]
   walk_at "pd"
   rw[ZtZ])]
  walk_at "pd"
  rw[show ((List.range m.toNat).filter fun _=>true)=List.range m.toNat from ZuW.mpr fun _ _=>rfl,Zum]
  rfl
 |false =>
  rw[if_neg (by decide)]
  walk_at "pd"
  rw[Zhw (g:=fun c=>c%10^61) (fun z _=>Qp (by decide))]
  generalize hsum:((ns.drop sk.toNat).map fun(c:Int)=>c%10^61)=cs
  walk_at "pd"
  generalize hw:UV _ _ _=W
  obtain⟨ρ',rfl,v,rfl⟩:=ZP hw (fun i ρ=>∃v,ρ=[.lst (ns.map PV.int),.int sk,.int m,.int b,.bl false,.non,.int (Zkm cs.sum b i),.lst ((Zi0 cs.sum b i).map PV.int),v]) ⟨_,rfl⟩ (by
   rintro i x ρ hx ⟨v,rfl⟩
   obtain⟨hi,rfl⟩:=J9 hx
   have hlen:(Zi0 cs.sum b i).length=i:=Zct _ _ _
   walk_at "pd"
   exact JG ⟨.int (0+(i:Int)),by rw[ZfV,Zkm]⟩)
  walk_at "pd"
  rw[Jp]
theorem Zp5 {ns:List Int}{sk m b:Int}{mx:Bool} (h:ns.length<=1000/\(0<=sk/\sk<=1000)/\(0<=m/\m<=1000)/\0<b/\b<=1000000):Zoh.fn [.lst (ns.map PV.int),.int sk,.int m,.int b,.bl mx]=.ok (.lst ((ZgT ns sk m b mx).map PV.int)):=Pm.fn_eq Zoh (ns,sk,m,b,mx) h fun(a:List Int×Int×Int×Int×Bool) e=>by (simp only[Zoh,List.cons.injEq,PV.lst.injEq,PV.int.injEq,PV.str.injEq,PV.bl.injEq,PV.tup.injEq,ZI,and_true] at e ⊢;first|(simp only[e];done)|(subst e;rfl)|(rw[e]))
noncomputable def lyI (n:Nat) (L:List Int):List Int:=L.foldl (fun b a=>b.set a.toNat (b.getD a.toNat 0+1)) (List.replicate n 0)
theorem Zit {n:Nat}:∀(L:List Int) (b:List Int) (s:Int),Bs n s b->(∀a∈L,0<=a/\a<n)->Bs n (s+L.length) (L.foldl (fun b a=>b.set a.toNat (b.getD a.toNat 0+1)) b)
 |[],b,s,h,_=>by simpa using h
 |a::L,b,s,h,hL=>by
  obtain⟨l,nn,sm⟩:=h
  have ha:=hL a (by simp)
  have:=Zit L (b.set a.toNat (b.getD a.toNat 0+1)) (s+1) ⟨by simp[l],fun x hx=>?_, ?_⟩ fun z hz=>hL z (by simp[hz])
  ·rw[ZvF,Zua,show s+((L.length+1:Nat):Int)=s+1+L.length by omega]
   exact this
  ·rcases List.mem_or_eq_of_mem_set hx with z|z
   ·exact nn x z
   ·have:=ZfM nn a.toNat
    omega
  ·rw[UN (by omega)];omega
theorem Zjt {n:Nat}{L:List Int} (h:∀a∈L,0<=a/\a<n):Bs n L.length (lyI n L):=by
 have:=Zit L (List.replicate n 0) 0 ⟨by simp,fun x hx=>by rw[List.eq_of_mem_replicate hx];omega,by simp⟩ h
 rw[ZuG] at this
 exact this
noncomputable def ZnS:Pm:=⟨List Int×Int,fun a=>[.lst (a.1.map PV.int),.int a.2],fun a=>(∀x∈a.1,0<=x/\x<a.2)/\0<=a.2/\a.2<=1000,fun a=>.ok (.lst ((lyI a.2.toNat a.1).map PV.int))⟩
theorem Zsw (T:Txt K mg) {f:Addr}{fd:FuncData} (F:Fun K "_law_laid" "_law_laid" Zoe f fd):JB P w K mg base CX0 1 f fd ["places", "pits"] (spF K 2 .F W0 ZnS.fn):=by
 refine F.okP ZpV rfl rfl (fun cdv A outer s H E hr=>?_)
 have hu:=hr.units
 refine⟨_,_,⟨[],[],[],.F⟩,rfl,(Zg (QP (i:=2) ZpV.nd rfl (Jf rfl T.z_range (Za (pv 1) Zf)) (fun _ _ _ _=>Zi) rfl)
   (Zg (J5 PassesOwn.never rfl (Jk (K:=K) (pv 0)) (Jg (i:=3) ZpV.nd rfl (by first|exact Or.inl rfl|exact Or.inr rfl)) (Zl (U8 (Z6 J6 (ZC (Zp (K:=K)) (pv 2) (pv 3) (fun _ _=>rfl)) Zi) (Qj (pv 2) (pv 3) JN))))
   (Zl (Z3 (pv 2))))),
   (Zm (Γm:=[.S,.S,.O,.U]) (Zac (i:=2) (JU (DI.c (J4 (Zb (Zc (i:=1) (m:=.S) rfl (by decide)) Zd))) (DE.PF Zj)) (by decide))
   (Zm (Γm:=[.S,.S,.O,.U]) (J7 (Γl:=[.S,.S,.O,.U]) (Jx (Vl (i:=0) rfl)) rfl (Zep (i:=3) (by decide))
   (DS.out (Y:=⟨[.S,.S,.O,.P],[.S,.S,.O,.U],[.S,.S,.O,.U],.F⟩) (Y':=⟨[.S,.S,.O,.U],[.S,.S,.O,.U],[.S,.S,.O,.U],.F⟩) (Vd (i:=2) rfl (J8 (Zx (te:=tC .non) (Zc (i:=2) (m:=.O) rfl (by decide)) (DE.toA (Zk (i:=3) rfl))) (DE.toA Zj)) (DE.toA (Zk (i:=3) rfl))) rfl rfl rfl rfl))
   (ZU (JI (i:=2) rfl)))), ?_⟩
 refine Pm.ref ZnS (g:=fun xs=>_) ?_
 rintro⟨L,m⟩ ⟨hL,hm,hn⟩
 simp only at hL hm hn
 obtain⟨n,rfl⟩:∃n:Nat,m=n:=⟨m.toNat,by omega⟩
 simp only[ZnS]
 walk_at "pd"
 rw[Zjs (g:=fun _=>0) (fun i hi=>rfl),ZtZ,show (List.range n).map (fun _=>(0:Int))=lyI n (L.take 0) by simp[lyI,List.map_const']]
 walk_at "pd"
 generalize hw:UV _ _ _=W
 obtain⟨ρ',rfl,v,rfl⟩:=ZP hw (fun i ρ=>∃v,ρ=[.lst (L.map PV.int),.int n,.lst ((lyI n (L.take i)).map PV.int),v]) ⟨_,rfl⟩ (by
  rintro i x ρ hx ⟨v,rfl⟩
  rw[ZtT] at hx
  obtain⟨a,ha,rfl⟩:=Zur.mp hx
  obtain⟨a0,a1⟩:=hL a (ZtA ha)
  have hl:=(Zjt (n:=n) (L:=L.take i) fun z hz=>hL z (Zuc hz)).1
  have hs:lyI n (L.take (i+1))=(lyI n (L.take i)).set a.toNat ((lyI n (L.take i)).getD a.toNat 0+1):=by
   unfold lyI
   rw[ZuS,ha,Zv8];rfl
  rw[hs]
  generalize lyI n (L.take i)=bb at hl
  walk_at "pd"
  exact JG ⟨_,rfl⟩)
 walk_at "pd"
 rw[ZtG,ZuV]
theorem ZoG {L:List Int}{n:Int} (h:(∀x∈L,0<=x/\x<n)/\0<=n/\n<=1000):ZnS.fn [.lst (L.map PV.int),.int n]=.ok (.lst ((lyI n.toNat L).map PV.int)):=Pm.fn_eq ZnS (L,n) h fun(a:List Int×Int) e=>by (simp only[ZnS,List.cons.injEq,PV.lst.injEq,PV.int.injEq,PV.str.injEq,PV.bl.injEq,PV.tup.injEq,ZI,and_true] at e ⊢;first|(simp only[e];done)|(subst e;rfl)|(rw[e]))
noncomputable def brC (ns:List Int):Int:=if Ja ns 0/2%2=1 then stir (Ja ns 1) 9 else Ja ns 1
noncomputable def brL (c:Int) (n:Nat):List Int:=((List.range n).filter fun(i:Nat)=>decide (c/2^i%2=1)).map fun(i:Nat)=>(i:Int)
noncomputable def brS (ns:List Int) (n:Nat):List Int:=if brL (brC ns) n=[]\/(brL (brC ns) n).length=n then [brC ns/4096%n] else brL (brC ns) n
structure Bar (n:Nat) (l:List Int):Prop where
 al:∀p∈l,0<=p/\p<n
 up:l.Pairwise (·<·)
 ne:l≠[]
 nn:l.length≠n
theorem Zl1 (ns:List Int) {n:Nat} (h:2<=n):Bar n (brS ns n):=by
 unfold brS
 split
 ·have h1:=Zup (brC ns/4096) (show (n:Int)≠0 by omega)
  have h2:=Zud (brC ns/4096) (show (0:Int)<n by omega)
  exact⟨fun p hp=>by rw[ZtQ.mp hp];exact⟨h1,h2⟩,Zvc _ _,by simp,by simp;omega⟩
 ·rename_i c
  refine⟨fun p hp=>?_, ?_,fun z=>c (.inl z),fun z=>c (.inr z)⟩
  ·obtain⟨i,hi,rfl⟩:=ZtY.mp hp
   have:=Zug.mp (Zuw.mp hi).1
   omega
  ·unfold brL
   rw[ZuF]
   refine((List.pairwise_lt_range (n:=n)).filter _).imp ?_
   intro a b h
   omega
noncomputable def ZnT:Pm:=⟨List Int×Int,fun a=>[.lst (a.1.map PV.int),.int a.2],fun a=>2<=a.2/\a.2<=1000,fun a=>.ok (.lst ((brS a.1 a.2.toNat).map PV.int))⟩
theorem Zsx (T:Txt K mg) {f:Addr}{fd:FuncData} (F:Fun K "_law_bars" "_law_bars" Zof f fd):JB P w K mg base CX0 2 f fd ["script", "pits"] (spF K 2 .F W0 ZnT.fn):=by
 have Znu:=Vz (P:=P) (w:=w) (base:=base) T.Zpy Zpg (fun F=>ZoX T F)
 have ZnA:=Vz (P:=P) (w:=w) (base:=base) T.ZoH ZoB (fun F=>Zo8 T F)
 refine F.okP ZoL rfl rfl (fun cdv A outer s H E hr=>?_)
 have hu:=hr.units
 refine⟨_,_,⟨[],[],[],.F⟩,rfl,(Zg (Z2 (i:=2) ZoL.nd rfl (by first|exact Or.inl rfl|exact Or.inr rfl) (Zr Znu (hr.mono (by decide)) rfl (Za (pv 0) (Za Zi Zf))))
   (Zg (Jm (Zy (J0 (K:=K) hu) (Z6 ZS (Z6 Jz (Zr Znu (hr.mono (by decide)) rfl (Za (pv 0) (Za Zi Zf))) Zi) Zi) Zi (Z9 _)) (Zl (Z2 (i:=2) ZoL.nd rfl (by first|exact Or.inl rfl|exact Or.inr rfl) (Zr ZnA (hr.mono (by decide)) rfl (Za (pv 2) (Za Zi Zf))))) ZA)
   (Zg (Qh (i:=3) ZoL.nd rfl (Jf rfl T.z_range (Za (pv 1) Zf)) (Ql ZoL.nd) (fun _ _ _ _=>(ZeY (fun _ _ h=>h) (Zy (J0 (K:=K) hu) (Z6 ZS (Z6 ZkI (pv 2) (pv 4)) Zi) Zi (Z9 _)))) (fun _ _ _ _=>(pv 4)) hv1 rfl)
   (Zg (Jm (PW.pt (Vs (Zy (J0 (K:=K) hu) (pv 3) (Va Zf) (Z9 _)) (Vy (Zy (J0 (K:=K) hu) (Zo (Zw (K:=K)) rfl T.z_len ZY (Za (pv 3) Zf)) (pv 1) (Z9 _))))) (Zl (Z3 (Va (Za (Z6 ZS (Z6 Jz (pv 2) Zi) (pv 1)) Zf)))) ZA)
   (Zl (Z3 (pv 3))))))),
   (Zm (Γm:=[.S,.S,.P,.U]) (ZQ (i:=2) (Zah (Ze (Ze Zq)) (Zb (Zc (i:=0) (m:=.S) rfl (by decide)) (Zb (DE.toA Zj) Zd))) (by decide))
   (Zm (Γm:=[.S,.S,.P,.U]) (Jo (Zv (DE.toA (ZX (g:=id) (DE.toA (ZV (DE.toA (VL (DE.toA (Zah (Ze (Ze Zq)) (Zb (Zc (i:=0) (m:=.S) rfl (by decide)) (Zb (DE.toA Zj) Zd)))) (DE.toA Zj))) (DE.toA Zj))) (DE.toA Zj))))
   (ZQ (i:=2) (Zah (Ze (Ze Zq)) (Zb (DE.toA (Zk (i:=2) rfl)) (Zb (DE.toA Zj) Zd))) (by decide))
   ZB)
   (Zm (Γm:=[.S,.S,.P,.O]) (Q5 (i:=3) (Uo (k:=1) (DI.c (J4 (Zb (Zc (i:=1) (m:=.S) rfl (by decide)) Zd))) Zlx (Zv (DE.toA (ZX (g:=id) (DE.toA (ZV (DE.toA (Zls (DE.toA (Zk (i:=2) rfl)) (Zc (i:=4) (m:=.S) rfl (by decide)))) (DE.toA Zj))) (DE.toA Zj)))) (DE.PF (DE.grd (Zc (i:=4) (m:=.S) rfl (by decide))))) (by decide))
   (Zm (Γm:=[.S,.S,.P,.O]) (Jo (Vu (Zv (DE.toA (ZX (g:=id) (Zc (i:=3) (m:=.O) rfl (by decide)) (DE.toA (JW Jq))))) (Zv (DE.toA (ZX (g:=id) (DE.toA (ZW (Zb (Zc (i:=3) (m:=.O) rfl (by decide)) Zd))) (Zc (i:=1) (m:=.S) rfl (by decide))))))
   (ZU (JW (ZE (DE.PF (ZV (DE.toA (VL (DE.toA (Zk (i:=2) rfl)) (DE.toA Zj))) (Zc (i:=1) (m:=.S) rfl (by decide)))) Jq)))
   ZB)
   (ZU (JI (i:=3) rfl)))))), ?_⟩
 refine Pm.ref ZnT (g:=fun xs=>_) ?_
 rintro⟨ns,m⟩ ⟨h0,h1⟩
 simp only at h0 h1
 obtain⟨n,rfl⟩:∃n:Nat,m=n:=⟨m.toNat,by omega⟩
 simp only[ZnT]
 walk_at "pd"
 rw[Znr (by omega)]
 walk_at "pd"
 rw[Znr (by omega)]
 walk_at "pd"
 by_cases c:Ja ns 0/2%2=1
 ·rw[decide_eq_true c]
  walk_at "pd"
  rw[Znt ⟨by omega,by omega⟩,show stir (Ja ns 1) 9=brC ns from (if_pos c).symm]
  walk_at "pd"
  rw[Um (p:=fun i=>decide (brC ns/2^i%2=1)) (g:=fun(i:Nat)=>.int (i:Int)) (fun i hi=>by
   rw[ZuG]
   walk_at "pd"
   rw[Zfe (by omega),ZtZ]
   walk_at "pd"
   by_cases e:brC ns/2^i%2=1
   ·rw[decide_eq_true e]
    walk_at "pd"
   ·rw[decide_eq_false e]
    walk_at "pd")]
  rw[ZtZ,show ((List.range n).filter fun i=>decide (brC ns/2^i%2=1)).map (fun(i:Nat)=>PV.int (i:Int))=(brL (brC ns) n).map PV.int by unfold brL;rw[Zum];rfl]
  unfold brS
  generalize brL (brC ns) n=L
  walk_at "pd"
  by_cases e:L=[]\/L.length=n
  ·rw[if_pos e]
   rcases e with e|e
   ·subst e
    walk_at "pd"
   ·by_cases e2:L=[]
    ·subst e2
     walk_at "pd"
    ·rw[decide_eq_false e2]
     walk_at "pd"
     rw[decide_eq_true (by omega)]
     walk_at "pd"
  ·rw[if_neg e,decide_eq_false (fun z=>e (.inl z))]
   walk_at "pd"
   rw[decide_eq_false (fun z=>e (.inr (by omega)))]
   walk_at "pd"
 ·rw[decide_eq_false c,show Ja ns 1=brC ns from (if_neg c).symm]
  walk_at "pd"
  rw[Um (p:=fun i=>decide (brC ns/2^i%2=1)) (g:=fun(i:Nat)=>.int (i:Int)) (fun i hi=>by
   rw[ZuG]
   walk_at "pd"
   rw[Zfe (by omega),ZtZ]
   walk_at "pd"
   by_cases e:brC ns/2^i%2=1
   ·rw[decide_eq_true e]
    walk_at "pd"
   ·rw[decide_eq_false e]
    walk_at "pd")]
  rw[ZtZ,show ((List.range n).filter fun i=>decide (brC ns/2^i%2=1)).map (fun(i:Nat)=>PV.int (i:Int))=(brL (brC ns) n).map PV.int by unfold brL;rw[Zum];rfl]
  unfold brS
  generalize brL (brC ns) n=L
  walk_at "pd"
  by_cases e:L=[]\/L.length=n
  ·rw[if_pos e]
   rcases e with e|e
   ·subst e
    walk_at "pd"
   ·by_cases e2:L=[]
    ·subst e2
     walk_at "pd"
    ·rw[decide_eq_false e2]
     walk_at "pd"
     rw[decide_eq_true (by omega)]
     walk_at "pd"
  ·rw[if_neg e,decide_eq_false (fun z=>e (.inl z))]
   walk_at "pd"
   rw[decide_eq_false (fun z=>e (.inr (by omega)))]
   walk_at "pd"
theorem Zpf {ns:List Int}{n:Int} (h:2<=n/\n<=1000):ZnT.fn [.lst (ns.map PV.int),.int n]=.ok (.lst ((brS ns n.toNat).map PV.int)):=Pm.fn_eq ZnT (ns,n) h fun(a:List Int×Int) e=>by (simp only[ZnT,List.cons.injEq,PV.lst.injEq,PV.int.injEq,PV.str.injEq,PV.bl.injEq,PV.tup.injEq,ZI,and_true] at e ⊢;first|(simp only[e];done)|(subst e;rfl)|(rw[e]))
noncomputable def Zov:Pm:=⟨Int,fun i=>[.int i],fun _=>True,fun _=>.ok (.bl true)⟩
theorem ZsG (T:Txt K mg) {f:Addr}{fd:FuncData} (F:Fun K "is_whole" "is_whole" Zoz f fd):JB P w K mg base CX0 1 f fd ["value"] (spF K 1 .P W0 Zov.fn):=by
 refine F.okP ZsE rfl rfl (fun cdv A outer s H E hr=>?_)
 have hu:=hr.units
 refine⟨_,_,⟨[],[],[],.P⟩,rfl,(Zl (Z3 (QR (Zo (Ji (K:=K) (n := "int") rfl) rfl T.z_isinstance ZF (Za (pv 0) (Za (JF (v:=.ty "int") rfl T.z_int Zgv rfl) Zf))) (QQ (Zk6 (Zo (Ji (K:=K) (n := "bool") rfl) rfl T.z_isinstance ZF (Za (pv 0) (Za (JF (v:=.ty "bool") rfl T.z_bool Zgw rfl) Zf)))))))),
   (ZH (Zag (DE.toA (V4 (Zc (i:=0) (m:=.S) rfl (by decide)))) (Zlt (DE.toA (V4 (Zc (i:=0) (m:=.S) rfl (by decide))))))), ?_⟩
 refine Pm.ref Zov (g:=fun xs=>_) ?_
 intro (i:Int) _
 simp only[Zov]
 walk_at "pd"
theorem Zp3 {i:Int}:Zov.fn [.int i]=.ok (.bl true):=Pm.fn_eq Zov i trivial fun _ _=>rfl
noncomputable def Zns:Pm:=⟨Int×Int,fun a=>[.int a.1,.int a.2],fun _=>True,fun a=>.ok (.bl (decide (a.2<=a.1)))⟩
theorem ZpO (T:Txt K mg) {f:Addr}{fd:FuncData} (F:Fun K "is_whole_from" "is_whole_from" Znw f fd):JB P w K mg base CX0 2 f fd ["value", "least"] (spF K 2 .P W0 Zns.fn):=by
 have Ztm:=Vz (P:=P) (w:=w) (base:=base) T.Ztf ZsS (fun F=>ZsG T F)
 refine F.okP Zr3 rfl rfl (fun cdv A outer s H E hr=>?_)
 have hu:=hr.units
 refine⟨_,_,⟨[],[],[],.P⟩,rfl,(Zl (Z3 (QR (Zr Ztm (hr.mono (by decide)) rfl (Za (pv 0) Zf)) (QQ (JV Zmg (pv 0) (pv 1) (Z9 _)))))),
   (ZH (Zag (DE.toA (Zah (Ze Zq) (Zb (Zc (i:=0) (m:=.S) rfl (by decide)) Zd))) (Zmr (Zc (i:=0) (m:=.S) rfl (by decide)) (Zc (i:=1) (m:=.S) rfl (by decide))))), ?_⟩
 refine Pm.ref Zns (g:=fun xs=>_) ?_
 rintro⟨i,j⟩ _
 simp only[Zns]
 walk_at "pd"
 rw[Zp3]
 walk_at "pd"
theorem ZnJ {i j:Int}:Zns.fn [.int i,.int j]=.ok (.bl (decide (j<=i))):=Pm.fn_eq Zns (i,j) trivial fun(a:Int×Int) e=>by (simp only[Zns,List.cons.injEq,PV.lst.injEq,PV.int.injEq,PV.str.injEq,PV.bl.injEq,PV.tup.injEq,ZI,and_true] at e ⊢;first|(simp only[e];done)|(subst e;rfl)|(rw[e]))
noncomputable def Znl:Pm:=⟨List Int,fun ns=>[.lst (ns.map PV.int)],fun ns=>ns.length<=1000000,fun ns=>.ok (.bl (decide (∀x∈ns,0<=x)))⟩
theorem ZpQ (T:Txt K mg) {f:Addr}{fd:FuncData} (F:Fun K "is_list_from_nought" "is_list_from_nought" Znm f fd):JB P w K mg base CX0 3 f fd ["values"] (spF K 1 .P W0 Znl.fn):=by
 have Zpj:=Vz (P:=P) (w:=w) (base:=base) T.Zql ZpP (fun F=>ZpO T F)
 refine F.okP ZoD rfl rfl (fun cdv A outer s H E hr=>?_)
 have hu:=hr.units
 refine⟨_,_,⟨[],[],[],.P⟩,rfl,(Zl (Z3 (QR (Zo (Ji (K:=K) (n := "list") rfl) rfl T.z_isinstance ZF (Za (pv 0) (Za (JF (v:=.ty "list") rfl T.z_list Js rfl) Zf))) (QQ (Zo (QB (K:=K) rfl) rfl T.z_all Zg0 (Za (U0 (Jk (K:=K) (pv 0)) (fun _ _ _ _=>(Zr Zpj (hr.mono (by decide)) rfl (Za (pv 1) (Za Zi Zf)))) ZoD.nd rfl) Zf)))))),
   (ZH (Zag (DE.toA (V4 (Zc (i:=0) (m:=.S) rfl (by decide)))) (Zgg (Zb (DE.toA (JU (DI.c (Jx (Vl (i:=0) rfl))) (DE.PF (Zah (Ze (Ze Zq)) (Zb (Zc (i:=1) (m:=.S) rfl (by decide)) (Zb (DE.toA Zj) Zd)))))) Zd)))), ?_⟩
 refine Pm.ref Znl (g:=fun xs=>_) ?_
 intro (ns:List Int) (hn:ns.length<=1000000)
 simp only[Znl]
 walk_at "pd"
 rw[Zf5 (g:=fun z=>decide (0<=z)) (fun z _=>ZnJ)]
 walk_at "pd"
 rw[Zg5]
theorem Zn0 {ns:List Int} (h:ns.length<=1000000):Znl.fn [.lst (ns.map PV.int)]=.ok (.bl (decide (∀x∈ns,0<=x))):=Pm.fn_eq Znl ns h fun(a:List Int) e=>by (simp only[Znl,List.cons.injEq,PV.lst.injEq,PV.int.injEq,PV.str.injEq,PV.bl.injEq,PV.tup.injEq,ZI,and_true] at e ⊢;first|(simp only[e];done)|(subst e;rfl)|(rw[e]))
noncomputable def ZnV:Pm:=⟨Unit,fun _=>[],fun _=>True,fun _=>.ok (.int (10^60))⟩
theorem Zse (T:Txt K mg) {f:Addr}{fd:FuncData} (F:Fun K "most_seeds" "most_seeds" ZnN f fd):JB P w K mg base CX0 1 f fd [] (spF K 0 .P W0 ZnV.fn):=by
 refine F.okP ZrX rfl rfl (fun cdv A outer s H E hr=>?_)
 have hu:=hr.units
 refine⟨_,_,⟨[],[],[],.P⟩,rfl,(Zl (Z3 (Z6 Zbp Zi Zi))),
   (ZH (Zb8 (DE.toA Zj) (DE.toA Zj))), ?_⟩
 refine Pm.ref ZnV (g:=fun xs=>_) ?_
 rintro _ _
 simp only[ZnV]
 walk_at "pd"
theorem ZoQ:ZnV.fn []=.ok (.int (10^60)):=Pm.fn_eq ZnV () trivial fun _ _=>rfl
noncomputable def ZnI:Pm:=⟨List Int,fun ns=>[.lst (ns.map PV.int)],fun ns=>ns.length<=1000,fun ns=>.ok (.bl (Vf ns))⟩
theorem ZsH (T:Txt K mg) {f:Addr}{fd:FuncData} (F:Fun K "is_board" "is_board" Zo0 f fd):JB P w K mg base CX0 4 f fd ["board"] (spF K 1 .P W0 ZnI.fn):=by
 have Zqu:=Vz (P:=P) (w:=w) (base:=base) T.Zqm ZpR (fun F=>ZpQ T F)
 have ZsC:=Vz (P:=P) (w:=w) (base:=base) T.Zs1 Zsm (fun F=>Zse T F)
 refine F.okP ZsF rfl rfl (fun cdv A outer s H E hr=>?_)
 have hu:=hr.units
 refine⟨_,_,⟨[],[],[],.P⟩,rfl,(Zg (Jm (JP (JO (Zr Zqu (hr.mono (by decide)) rfl (Za (pv 0) Zf)))) (Zl (Z3 UD)) ZA)
   (Zg (Jm (PW.pt (Vs (Zy Zay (Zo (Zw (K:=K)) rfl T.z_len ZY (Za (pv 0) Zf)) (Zau T.c_FEWEST_PITS rfl) (Z9 _)) (Vy (Zy Zfu (Zo (Zw (K:=K)) rfl T.z_len ZY (Za (pv 0) Zf)) (Zau T.c_MOST_PITS rfl) (Z9 _))))) (Zl (Z3 UD)) ZA)
   (Zl (Z3 (JV ZkK (Zo (JK (K:=K) rfl) rfl T.z_sum QD (Za (pv 0) Zf)) (ZeX ZsC (hr.mono (by decide)) rfl) (Z9 _)))))),
   (Zm (Γm:=[.S]) (Jo (JR (Zb6 (DE.toA (Zah (Ze Zq) (Zb (Zc (i:=0) (m:=.S) rfl (by decide)) Zd)))))
   (ZH UG)
   ZB)
   (Zm (Γm:=[.S]) (Jo (Vu (Zv (DE.toA (Zb9 (DE.toA (ZW (Zb (Zc (i:=0) (m:=.S) rfl (by decide)) Zd))) (DE.toA Zj)))) (Zv (DE.toA (Zgd (DE.toA (ZW (Zb (Zc (i:=0) (m:=.S) rfl (by decide)) Zd))) (DE.toA Zj)))))
   (ZH UG)
   ZB)
   (ZH (Zmq (DE.toA (Q9 (Zb (Zc (i:=0) (m:=.S) rfl (by decide)) Zd))) (DE.toA (Zah Zq Zd)))))), ?_⟩
 refine Pm.ref ZnI (g:=fun xs=>_) ?_
 intro (ns:List Int) (hn:ns.length<=1000)
 simp only[ZnI]
 walk_at "pd"
 rw[Zn0 (by omega)]
 walk_at "pd"
 by_cases h3:∀x∈ns,0<=x
 ·rw[decide_eq_true h3]
  walk_at "pd"
  by_cases h1:(ns.length:Int)<2
  ·rw[decide_eq_true h1]
   walk_at "pd"
   rw[show Vf ns=false from decide_eq_false (by omega)]
  rw[decide_eq_false h1]
  walk_at "pd"
  by_cases h2:(24:Int)<ns.length
  ·rw[decide_eq_true h2]
   walk_at "pd"
   rw[show Vf ns=false from decide_eq_false (by omega)]
  rw[decide_eq_false h2]
  walk_at "pd"
  rw[ZoQ]
  walk_at "pd"
  by_cases h4:ns.sum<=10^60
  ·rw[decide_eq_true h4,Ve.mpr ⟨by omega,by omega,h3,h4⟩]
  ·rw[decide_eq_false h4,show Vf ns=false from decide_eq_false (fun z=>h4 z.2.2.2)]
 ·rw[decide_eq_false h3]
  walk_at "pd"
  rw[show Vf ns=false from decide_eq_false (fun z=>h3 z.2.2.1)]
theorem Zp4 {ns:List Int} (h:ns.length<=1000):ZnI.fn [.lst (ns.map PV.int)]=.ok (.bl (Vf ns)):=Pm.fn_eq ZnI ns h fun(a:List Int) e=>by (simp only[ZnI,List.cons.injEq,PV.lst.injEq,PV.int.injEq,PV.str.injEq,PV.bl.injEq,PV.tup.injEq,ZI,and_true] at e ⊢;first|(simp only[e];done)|(subst e;rfl)|(rw[e]))
theorem Zcc:ZnI.calm:=fun a q h=>by (simp only[ZnI] at h;cases h)
noncomputable def Zn7:Pm:=⟨List Int,fun ns=>[.lst (ns.map PV.int)],fun ns=>ns.length<=1000,fun ns=>orX (if Vf ns=true then none else some "BadBoard") .non⟩
theorem ZrP (T:Txt K mg) {f:Addr}{fd:FuncData} (F:Fun K "check_board" "check_board" ZnB f fd):JB P w K mg base (CX1 P w) 5 f fd ["board"] (spF K 1 .P (W1 K) Zn7.fn):=by
 have Ztn:=Vz (P:=P) (w:=w) (base:=base) T.Ztg ZsT (fun F=>ZsH T F)
 obtain⟨C_BadBoard,hC_BadBoard,hQ_BadBoard⟩:=UI T.x_exc (n := "BadBoard") (by decide)
 refine F.okX ZrN rfl rfl (fun cdv A outer s H E hr=>?_)
 have hu:=hr.units
 refine⟨_,_,⟨[.S],[],[],.P⟩,rfl,(Zl (Jm (JP (JO (Zr Ztn (hr.mono (by decide)) rfl (Za (pv 0) Zf)))) (Zl (V8 U3 hQ_BadBoard rfl (T.x_mg _ _ hC_BadBoard) rfl (Za JQ Zf))) ZA)),
   (Jo (JR (Zb6 (DE.toA (ZlH (Ze Zq) (Pm.calm_fn Zcc) (Zb (Zc (i:=0) (m:=.S) rfl (by decide)) Zd)))))
   (VD hC_BadBoard (Ze Zq) (by decide) (Zb (DE.toA JS) Zd))
   ZB), ?_⟩
 refine Pm.ref Zn7 (g:=fun xs=>_) ?_
 intro (ns:List Int) (hn:ns.length<=1000)
 simp only[Zn7]
 walk_at "pu"
 rw[Zp4 hn]
 walk_at "pu"
 by_cases h:Vf ns=true
 ·rw[h];walk_at "pu";rfl
 ·rw[Bool.not_eq_true] at h
  rw[h];walk_at "pu";rfl
theorem Zoq {ns:List Int} (h:ns.length<=1000):Zn7.fn [.lst (ns.map PV.int)]=orX (if Vf ns=true then none else some "BadBoard") .non:=Pm.fn_eq Zn7 ns h fun a e=>by
 simp only[Zn7,List.cons.injEq,PV.lst.injEq,and_true] at e ⊢
 rw[Jn e]
noncomputable def riB (l:List Int):Bool:=(List.range (l.length-1)).all fun i=>decide (l.getD i 0<l.getD (i+1) 0)
noncomputable def Zn6:Pm:=⟨List Int,fun a=>[.lst (a.map PV.int)],fun a=>a.length<=100000,fun a=>.ok (.bl (riB a))⟩
theorem Zss (T:Txt K mg) {f:Addr}{fd:FuncData} (F:Fun K "is_rising" "is_rising" ZnZ f fd):JB P w K mg base CX0 1 f fd ["numbers"] (spF K 1 .P W0 Zn6.fn):=by
 refine F.okP Zrz rfl rfl (fun cdv A outer s H E hr=>?_)
 have hu:=hr.units
 refine⟨_,_,⟨[],[],[],.P⟩,rfl,(Zl (Z3 (Zo (QB (K:=K) rfl) rfl T.z_all Zg0 (Za (U0 (Jf rfl T.z_range (Za (Z6 Zft (Zo (Zw (K:=K)) rfl T.z_len ZY (Za (pv 0) Zf)) Zi) Zf)) (fun _ _ _ _=>(JV Zay (ZC (Zp (K:=K)) (pv 0) (pv 1) (fun _ _=>rfl)) (ZC (Zp (K:=K)) (pv 0) (Z6 J6 (pv 1) Zi) (fun _ _=>rfl)) (Z9 _))) Zrz.nd rfl) Zf)))),
   (ZH (Zgg (Zb (DE.toA (JU (DI.c (J4 (Zb (DE.toA (ZfX (DE.toA (ZW (Zb (Zc (i:=0) (m:=.S) rfl (by decide)) Zd))) (DE.toA Zj))) Zd))) (DE.PF (Zb9 (Zx (te:=tC .non) (Zc (i:=0) (m:=.S) rfl (by decide)) (Zc (i:=1) (m:=.S) rfl (by decide))) (Zx (te:=tC .non) (Zc (i:=0) (m:=.S) rfl (by decide)) (DE.toA (J8 (Zc (i:=1) (m:=.S) rfl (by decide)) (DE.toA Zj)))))))) Zd))), ?_⟩
 refine Pm.ref Zn6 (g:=fun xs=>_) ?_
 rintro(l:List Int) (hl:l.length<=100000)
 simp only[Zn6]
 walk_at "pd"
 rw[Zhv (g:=fun(i:Nat)=>PV.bl (decide (l.getD i 0<l.getD (i+1) 0))) (fun i hi=>by
  rw[ZuG]
  walk_at "pd"
  rw[ZtZ,show ((i:Int)+1).toNat=i+1 by omega])]
 rw[show (List.range ((l.length:Int)-1).toNat).map (fun(i:Nat)=>PV.bl (decide (l.getD i 0<l.getD (i+1) 0)))=((List.range (l.length-1)).map fun(i:Nat)=>decide (l.getD i 0<l.getD (i+1) 0)).map PV.bl by rw[Zum,show ((l.length:Int)-1).toNat=l.length-1 by omega];rfl]
 walk_at "pd"
 unfold riB
 rw[List.all_map];rfl
theorem Zpb {l:List Int} (h:l.length<=100000):Zn6.fn [.lst (l.map PV.int)]=.ok (.bl (riB l)):=Pm.fn_eq Zn6 l h fun(a:List Int) e=>by (simp only[Zn6,List.cons.injEq,PV.lst.injEq,PV.int.injEq,PV.str.injEq,PV.bl.injEq,PV.tup.injEq,ZI,and_true] at e ⊢;first|(simp only[e];done)|(subst e;rfl)|(rw[e]))
theorem Zbg:Zn6.calm:=fun a q h=>by (simp only[Zn6] at h;cases h)
noncomputable def Zos:Pm:=⟨List Int×Int,fun a=>[.lst (a.1.map PV.int),.int a.2],fun _=>True,fun a=>.ok (.bl (decide (0<=a.2/\a.2<a.1.length)))⟩
theorem Zts (T:Txt K mg) {f:Addr}{fd:FuncData} (F:Fun K "is_pit" "is_pit" Zpk f fd):JB P w K mg base CX0 3 f fd ["board", "pit"] (spF K 2 .P W0 Zos.fn):=by
 have Zpj:=Vz (P:=P) (w:=w) (base:=base) T.Zql ZpP (fun F=>ZpO T F)
 refine F.okP Ztr rfl rfl (fun cdv A outer s H E hr=>?_)
 have hu:=hr.units
 refine⟨_,_,⟨[],[],[],.P⟩,rfl,(Zl (Z3 (QR (Zr Zpj (hr.mono (by decide)) rfl (Za (pv 1) (Za Zi Zf))) (QQ (JV Zay (pv 1) (Zo (Zw (K:=K)) rfl T.z_len ZY (Za (pv 0) Zf)) (Z9 _)))))),
   (ZH (Zag (DE.toA (Zah (Ze (Ze Zq)) (Zb (Zc (i:=1) (m:=.S) rfl (by decide)) (Zb (DE.toA Zj) Zd)))) (Zb9 (Zc (i:=1) (m:=.S) rfl (by decide)) (DE.toA (ZW (Zb (Zc (i:=0) (m:=.S) rfl (by decide)) Zd)))))), ?_⟩
 refine Pm.ref Zos (g:=fun xs=>_) ?_
 rintro⟨ns,p⟩ -
 simp only[Zos]
 walk_at "pd"
 rw[ZnJ]
 walk_at "pd"
 by_cases h0:0<=p
 ·rw[decide_eq_true h0]
  walk_at "pd"
  by_cases h1:p<ns.length
  ·rw[decide_eq_true h1,show decide (0<=p/\p<(ns.length:Int))=true from decide_eq_true ⟨h0,h1⟩]
  ·rw[decide_eq_false h1,show decide (0<=p/\p<(ns.length:Int))=false from decide_eq_false (fun z=>h1 z.2)]
 ·rw[decide_eq_false h0,show decide (0<=p/\p<(ns.length:Int))=false from decide_eq_false (fun z=>h0 z.1)]
  walk_at "pd"
theorem Zrc {ns:List Int}{p:Int}:Zos.fn [.lst (ns.map PV.int),.int p]=.ok (.bl (decide (0<=p/\p<ns.length))):=Pm.fn_eq Zos (ns,p) trivial fun(a:List Int×Int) e=>by (simp only[Zos,List.cons.injEq,PV.lst.injEq,PV.int.injEq,PV.str.injEq,PV.bl.injEq,PV.tup.injEq,ZI,and_true] at e ⊢;first|(simp only[e];done)|(subst e;rfl)|(rw[e]))
theorem ZeZ:Zos.calm:=fun a q h=>by (simp only[Zos] at h;cases h)
def ZjU (n:Nat) (l:List Int):Prop:=(∀p∈l,0<=p/\p<n)/\riB l=true/\l.length≠0/\l.length≠n
noncomputable instance (n:Nat) (l:List Int):Decidable (ZjU n l):=by unfold ZjU;infer_instance
noncomputable def ZlJ (n:Nat) (l:List Int):Option Str:=if ZjU n l then none else some "BadPits"
theorem Zg1 {n:Nat}{l:List Int} (h:ZjU n l):ZlJ n l=none:=if_pos h
theorem ZaL {n:Nat}{l:List Int} (h:¬ZjU n l):ZlJ n l=(some "BadPits":Option Str):=if_neg h
noncomputable def Znx:Pm:=⟨List Int×List Int,fun a=>[.lst (a.1.map PV.int),.lst (a.2.map PV.int)],fun a=>a.1.length<=1000/\a.2.length<=1000,fun a=>orX (ZlJ a.1.length a.2) .non⟩
theorem ZrC (T:Txt K mg) {f:Addr}{fd:FuncData} (F:Fun K "check_barred" "check_barred" Zn2 f fd):JB P w K mg base (CX1 P w) 4 f fd ["board", "barred"] (spF K 2 .P (W1 K) Znx.fn):=by
 have ZsY:=Vz (P:=P) (w:=w) (base:=base) T.ZsM Zs4 (fun F=>Zss T F)
 have Zt0:=Vz (P:=P) (w:=w) (base:=base) T.Zty Ztv (fun F=>Zts T F)
 obtain⟨C_BadPits,hC_BadPits,hQ_BadPits⟩:=UI T.x_exc (n := "BadPits") (by decide)
 refine F.okX ZpT rfl rfl (fun cdv A outer s H E hr=>?_)
 have hu:=hr.units
 refine⟨_,_,⟨[.S,.S],[],[],.P⟩,rfl,(Zg (Jm (PW.pt (Vs (JP (JO (Zo (Ji (K:=K) (n := "list") rfl) rfl T.z_isinstance ZF (Za (pv 1) (Za (JF (v:=.ty "list") rfl T.z_list Js rfl) Zf))))) (Vy (JP (JO (Zo (QB (K:=K) rfl) rfl T.z_all Zg0 (Za (U0 (Jk (K:=K) (pv 1)) (fun _ _ _ _=>(Zr Zt0 (hr.mono (by decide)) rfl (Za (pv 0) (Za (pv 2) Zf)))) ZpT.nd rfl) Zf))))))) (Zl (V8 U3 hQ_BadPits rfl (T.x_mg _ _ hC_BadPits) rfl (Za JQ Zf))) ZA)
   (Zg (Jm (JP (JO (Zr ZsY (hr.mono (by decide)) rfl (Za (pv 1) Zf)))) (Zl (V8 U3 hQ_BadPits rfl (T.x_mg _ _ hC_BadPits) rfl (Za JQ Zf))) ZA)
   (Zl (Jm (PW.pt (Vs (Zy (J0 (K:=K) hu) (Zo (Zw (K:=K)) rfl T.z_len ZY (Za (pv 1) Zf)) Zi (Z9 _)) (Vy (Zy (J0 (K:=K) hu) (Zo (Zw (K:=K)) rfl T.z_len ZY (Za (pv 1) Zf)) (Zo (Zw (K:=K)) rfl T.z_len ZY (Za (pv 0) Zf)) (Z9 _))))) (Zl (V8 U3 hQ_BadPits rfl (T.x_mg _ _ hC_BadPits) rfl (Za JQ Zf))) ZA)))),
   (Zm (Γm:=[.S,.S]) (Jo (Vu (JR (Zb6 (DE.toA (V4 (Zc (i:=1) (m:=.S) rfl (by decide)))))) (JR (Zb6 (DE.toA (Zgg (Zb (DE.toA (JU (DI.c (Jx (Vl (i:=1) rfl))) (DE.PF (ZlH (Ze (Ze Zq)) (Pm.calm_fn ZeZ) (Zb (Zc (i:=0) (m:=.S) rfl (by decide)) (Zb (Zc (i:=2) (m:=.S) rfl (by decide)) Zd)))))) Zd))))))
   (VD hC_BadPits (Ze Zq) (by decide) (Zb (DE.toA JS) Zd))
   ZB)
   (Zm (Γm:=[.S,.S]) (Jo (JR (Zb6 (DE.toA (ZlH (Ze Zq) (Pm.calm_fn Zbg) (Zb (Zc (i:=1) (m:=.S) rfl (by decide)) Zd)))))
   (VD hC_BadPits (Ze Zq) (by decide) (Zb (DE.toA JS) Zd))
   ZB)
   (Jo (Vu (Zv (DE.toA (ZX (g:=id) (DE.toA (ZW (Zb (Zc (i:=1) (m:=.S) rfl (by decide)) Zd))) (DE.toA Zj)))) (Zv (DE.toA (ZX (g:=id) (DE.toA (ZW (Zb (Zc (i:=1) (m:=.S) rfl (by decide)) Zd))) (DE.toA (ZW (Zb (Zc (i:=0) (m:=.S) rfl (by decide)) Zd)))))))
   (VD hC_BadPits (Ze Zq) (by decide) (Zb (DE.toA JS) Zd))
   ZB))), ?_⟩
 refine Pm.ref Znx (g:=fun xs=>_) ?_
 rintro⟨b,l⟩ ⟨hb,hl⟩
 simp only at hb hl
 simp only[Znx]
 walk_at "pd"
 rw[Zf5 (g:=fun z=>decide (0<=z/\z<(b.length:Int))) (fun z _=>Zrc)]
 walk_at "pd"
 rw[Zg5]
 by_cases h1:∀x∈l,0<=x/\x<(b.length:Int)
 ·rw[decide_eq_true h1]
  walk_at "pd"
  rw[Zpb (by omega)]
  walk_at "pd"
  by_cases h2:riB l=true
  ·rw[h2]
   walk_at "pd"
   by_cases h3:l.length=0
   ·rw[decide_eq_true (show (l.length:Int)=0 by omega),ZaL (fun z=>z.2.2.1 h3)]
    walk_at "pd"
   ·rw[decide_eq_false (show ¬(l.length:Int)=0 by omega)]
    walk_at "pd"
    by_cases h4:l.length=b.length
    ·rw[decide_eq_true (show (l.length:Int)=b.length by omega),ZaL (fun z=>z.2.2.2 h4)]
     walk_at "pd"
    ·rw[decide_eq_false (show ¬(l.length:Int)=b.length by omega),Zg1 ⟨h1,h2,h3,h4⟩]
     walk_at "pd"
  ·rw[eq_false_of_ne_true h2,ZaL (fun z=>h2 z.2.1)]
   walk_at "pd"
 ·rw[decide_eq_false h1,ZaL (fun z=>h1 z.1)]
  walk_at "pd"
theorem Zou {b l:List Int} (h:b.length<=1000/\l.length<=1000):Znx.fn [.lst (b.map PV.int),.lst (l.map PV.int)]=orX (ZlJ b.length l) .non:=Pm.fn_eq Znx (b,l) h fun(a:List Int×List Int) e=>by (simp only[Znx,List.cons.injEq,PV.lst.injEq,PV.int.injEq,PV.str.injEq,PV.bl.injEq,PV.tup.injEq,ZI,and_true] at e ⊢;first|(simp only[e];done)|(subst e;rfl)|(rw[e]))
noncomputable def ZjV (b o:List Int):Option Str:=if b.length=o.length/\b.sum=o.sum then none else some "Unlike"
noncomputable def Zn8:Pm:=⟨List Int×List Int,fun a=>[.lst (a.1.map PV.int),.lst (a.2.map PV.int)],fun a=>a.1.length<=1000/\a.2.length<=1000,fun a=>orX (ZjV a.1 a.2) .non⟩
theorem ZrQ (T:Txt K mg) {f:Addr}{fd:FuncData} (F:Fun K "check_alike" "check_alike" ZnC f fd):JB P w K mg base (CX1 P w) 1 f fd ["board", "other"] (spF K 2 .P (W1 K) Zn8.fn):=by
 obtain⟨C_Unlike,hC_Unlike,hQ_Unlike⟩:=UI T.x_exc (n := "Unlike") (by decide)
 refine F.okX ZrO rfl rfl (fun cdv A outer s H E hr=>?_)
 have hu:=hr.units
 refine⟨_,_,⟨[.S,.S],[],[],.P⟩,rfl,(Zl (Jm (PW.pt (Vs (Zy (VH (K:=K) hu) (Zo (Zw (K:=K)) rfl T.z_len ZY (Za (pv 0) Zf)) (Zo (Zw (K:=K)) rfl T.z_len ZY (Za (pv 1) Zf)) (Z9 _)) (Vy (Zy (VH (K:=K) hu) (Zo (JK (K:=K) rfl) rfl T.z_sum QD (Za (pv 0) Zf)) (Zo (JK (K:=K) rfl) rfl T.z_sum QD (Za (pv 1) Zf)) (Z9 _))))) (Zl (V8 U3 hQ_Unlike rfl (T.x_mg _ _ hC_Unlike) rfl (Za JQ Zf))) ZA)),
   (Jo (Vu (Zv (DE.toA (ZX (g:=(!·)) (DE.toA (ZW (Zb (Zc (i:=0) (m:=.S) rfl (by decide)) Zd))) (DE.toA (ZW (Zb (Zc (i:=1) (m:=.S) rfl (by decide)) Zd)))))) (Zv (DE.toA (ZX (g:=(!·)) (DE.toA (Q9 (Zb (Zc (i:=0) (m:=.S) rfl (by decide)) Zd))) (DE.toA (Q9 (Zb (Zc (i:=1) (m:=.S) rfl (by decide)) Zd)))))))
   (VD hC_Unlike (Ze Zq) (by decide) (Zb (DE.toA JS) Zd))
   ZB), ?_⟩
 refine Pm.ref Zn8 (g:=fun xs=>_) ?_
 rintro⟨b,o⟩ ⟨h1,h2⟩
 simp only at h1 h2
 simp only[Zn8]
 walk_at "pd"
 by_cases c:(b.length:Int)=o.length
 ·rw[decide_eq_true c]
  walk_at "pd"
  by_cases d:b.sum=o.sum
  ·rw[decide_eq_true d,show ZjV b o=none from if_pos ⟨by omega,d⟩]
   walk_at "pd"
  ·rw[decide_eq_false d,show ZjV b o=(some "Unlike":Option Str) from if_neg (fun z=>d z.2)]
   walk_at "pd"
 ·rw[decide_eq_false c,show ZjV b o=(some "Unlike":Option Str) from if_neg (fun z=>c (by omega))]
  walk_at "pd"
theorem ZoA {b o:List Int} (h:b.length<=1000/\o.length<=1000):Zn8.fn [.lst (b.map PV.int),.lst (o.map PV.int)]=orX (ZjV b o) .non:=Pm.fn_eq Zn8 (b,o) h fun(a:List Int×List Int) e=>by (simp only[Zn8,List.cons.injEq,PV.lst.injEq,PV.int.injEq,PV.str.injEq,PV.bl.injEq,PV.tup.injEq,ZI,and_true] at e ⊢;first|(simp only[e];done)|(subst e;rfl)|(rw[e]))
theorem Zmu:(10:Nat)^61<2^60000:=by
 calc (10:Nat)^61<=(2^4)^61:=Nat.pow_le_pow_left (by decide) _
  _=2^244:=by rw[<- Nat.pow_mul]
  _<2^60000:=Nat.pow_lt_pow_right (by decide) (by decide)
noncomputable def Znq:Pm:=⟨Int×Int,fun a=>[.int a.1,.int a.2],fun a=>(1<=a.1/\a.1<=24)/\a.2<=10^60,fun a=>.ok (.int (cbN a.1 a.2))⟩
theorem ZrB (T:Txt K mg) {f:Addr}{fd:FuncData} (F:Fun K "count_boards" "count_boards" Zn1 f fd):JB P w K mg base CX0 1 f fd ["pits", "seeds"] (spF K 2 .P W0 Znq.fn):=by
 refine F.okP Zo5 rfl rfl (fun cdv A outer s H E hr=>?_)
 have hu:=hr.units
 refine⟨_,_,⟨[],[],[],.P⟩,rfl,(Zg (Jm (Zy Zay (pv 1) Zi (Z9 _)) (Zl (Z3 Zi)) ZA)
   (Zg (Z2 (i:=2) Zo5.nd rfl (by first|exact Or.inl rfl|exact Or.inr rfl) Zi)
   (Zg (J5 PassesOwn.never rfl (Qi rfl T.z_range (Za Zi (Za (pv 0) Zf))) (Jg (i:=3) Zo5.nd rfl (by first|exact Or.inl rfl|exact Or.inr rfl)) (Zl (Z2 (i:=2) Zo5.nd rfl (by first|exact Or.inl rfl|exact Or.inr rfl) (Z6 Jz (Z6 U1 (pv 2) (Z6 J6 (pv 1) (pv 3))) (pv 3)))))
   (Zl (Z3 (pv 2)))))),
   (Zm (Γm:=[.S,.S,.U,.U]) (Jo (Zv (DE.toA (Zb9 (Zc (i:=1) (m:=.S) rfl (by decide)) (DE.toA Zj))))
   (ZH Zj)
   ZB)
   (Zm (Γm:=[.S,.S,.P,.U]) (ZQ (i:=2) Zj (by decide))
   (Zm (Γm:=[.S,.S,.P,.U]) (J7 (Γl:=[.S,.S,.P,.U]) (Zcv (Zb (DE.toA Zj) (Zb (Zc (i:=0) (m:=.S) rfl (by decide)) Zd))) rfl (Zep (i:=3) (by decide))
   (DS.out (Y:=⟨[.S,.S,.P,.P],[.S,.S,.P,.U],[.S,.S,.P,.U],.P⟩) (Y':=⟨[.S,.S,.P,.U],[.S,.S,.P,.U],[.S,.S,.P,.U],.P⟩) (ZQ (i:=2) (VL (DE.toA (Zaf (DE.toA (Zk (i:=2) rfl)) (DE.toA (J8 (Zc (i:=1) (m:=.S) rfl (by decide)) (DE.toA (Zk (i:=3) rfl)))))) (DE.toA (Zk (i:=3) rfl))) (by decide)) rfl rfl rfl rfl))
   (ZH (Zk (i:=2) rfl))))), ?_⟩
 refine Pm.ref Znq (g:=fun xs=>_) ?_
 rintro⟨p,s⟩ ⟨⟨hp0,hp⟩,hs⟩
 simp only at hp0 hp hs
 simp only[Znq]
 unfold cbN
 walk_at "pd"
 by_cases h:s<0
 ·rw[decide_eq_true h,if_pos h]
  walk_at "pd"
 ·rw[decide_eq_false h,if_neg h]
  walk_at "pd"
  generalize hw:UV _ _ _=W
  obtain⟨ρ',rfl,v,rfl⟩:=ZP hw (fun i ρ=>∃v,ρ=[.int p,.int s,.int (cbI s i),v]) ⟨_,rfl⟩ (by
   rintro i x ρ hx ⟨v,rfl⟩
   obtain⟨hi,rfl⟩:=J9 hx
   walk_at "pd"
   rw[Zff ⟨Zgo (by omega) hs (by omega),ZuD (show (s+(1+(i:Int))).natAbs<=10^61 by omega) Zmu⟩]
   walk_at "pd"
   exact JG ⟨.int (1+(i:Int)),by rw[cbI,Int.add_comm 1 (i:Int)]⟩)
  walk_at "pd"
  rw[Jp]
theorem Zot {p s:Int} (h:(1<=p/\p<=24)/\s<=10^60):Znq.fn [.int p,.int s]=.ok (.int (cbN p s)):=Pm.fn_eq Znq (p,s) h fun(a:Int×Int) e=>by (simp only[Znq,List.cons.injEq,PV.lst.injEq,PV.int.injEq,PV.str.injEq,PV.bl.injEq,PV.tup.injEq,ZI,and_true] at e ⊢;first|(simp only[e];done)|(subst e;rfl)|(rw[e]))
theorem Qk:Znq.calm:=fun a q h=>by (simp only[Znq] at h;cases h)
noncomputable def Zlk (b:List Int):Option Str:=if 1000<cbN b.length b.sum then some "TooMany" else none
noncomputable def Znn:Pm:=⟨List Int,fun a=>[.lst (a.map PV.int)],fun a=>(1<=a.length/\a.length<=24)/\a.sum<=10^60,fun a=>orX (Zlk a) .non⟩
theorem ZqF (T:Txt K mg) {f:Addr}{fd:FuncData} (F:Fun K "check_few_boards" "check_few_boards" Znp f fd):JB P w K mg base (CX1 P w) 2 f fd ["board"] (spF K 1 .P (W1 K) Znn.fn):=by
 have ZrV:=Vz (P:=P) (w:=w) (base:=base) T.ZrR ZrH (fun F=>ZrB T F)
 obtain⟨C_TooMany,hC_TooMany,hQ_TooMany⟩:=UI T.x_exc (n := "TooMany") (by decide)
 refine F.okX Zqy rfl rfl (fun cdv A outer s H E hr=>?_)
 have hu:=hr.units
 refine⟨_,_,⟨[.S],[],[],.P⟩,rfl,(Zl (Jm (Zy Zfu (Zr ZrV (hr.mono (by decide)) rfl (Za (Zo (Zw (K:=K)) rfl T.z_len ZY (Za (pv 0) Zf)) (Za (Zo (JK (K:=K) rfl) rfl T.z_sum QD (Za (pv 0) Zf)) Zf))) (Zau T.c_MOST_BOARDS rfl) (Z9 _)) (Zl (V8 U3 hQ_TooMany rfl (T.x_mg _ _ hC_TooMany) rfl (Za JQ Zf))) ZA)),
   (Jo (Zv (DE.toA (Zgd (DE.toA (ZlH (Ze (Ze Zq)) (Pm.calm_fn Qk) (Zb (DE.toA (ZW (Zb (Zc (i:=0) (m:=.S) rfl (by decide)) Zd))) (Zb (DE.toA (Q9 (Zb (Zc (i:=0) (m:=.S) rfl (by decide)) Zd))) Zd)))) (DE.toA Zj))))
   (VD hC_TooMany (Ze Zq) (by decide) (Zb (DE.toA JS) Zd))
   ZB), ?_⟩
 refine Pm.ref Znn (g:=fun xs=>_) ?_
 rintro(b:List Int) ⟨⟨h0,h1⟩,h2⟩
 simp only[Znn]
 walk_at "pd"
 rw[Zot ⟨⟨by omega,by omega⟩,h2⟩]
 walk_at "pd"
 by_cases c:1000<cbN b.length b.sum
 ·rw[decide_eq_true c,show Zlk b=(some "TooMany":Option Str) from if_pos c]
  walk_at "pd"
 ·rw[decide_eq_false c,show Zlk b=none from if_neg c]
  walk_at "pd"
theorem ZnH {b:List Int} (h:(1<=b.length/\b.length<=24)/\b.sum<=10^60):Znn.fn [.lst (b.map PV.int)]=orX (Zlk b) .non:=Pm.fn_eq Znn b h fun(a:List Int) e=>by (simp only[Znn,List.cons.injEq,PV.lst.injEq,PV.int.injEq,PV.str.injEq,PV.bl.injEq,PV.tup.injEq,ZI,and_true] at e ⊢;first|(simp only[e];done)|(subst e;rfl)|(rw[e]))
noncomputable def ZnP:Pm:=⟨List Int×List Int,fun a=>[.lst (a.1.map PV.int),.lst (a.2.map PV.int)],fun a=>a.1.length<=1000,fun a=>.ok (.lst ((Z5 a.1.length a.2).map PV.int))⟩
theorem Zst (T:Txt K mg) {f:Addr}{fd:FuncData} (F:Fun K "free_pits" "free_pits" Zoa f fd):JB P w K mg base CX0 1 f fd ["board", "barred"] (spF K 2 .F W0 ZnP.fn):=by
 refine F.okP ZpS rfl rfl (fun cdv A outer s H E hr=>?_)
 have hu:=hr.units
 refine⟨_,_,⟨[],[],[],.F⟩,rfl,(Zl (Z3 (Zav (Jf rfl T.z_range (Za (Zo (Zw (K:=K)) rfl T.z_len ZY (Za (pv 0) Zf)) Zf)) (Ql ZpS.nd) (fun _ _ _ _=>(ZeY (fun _ _ h=>h) (Zy (Qu (K:=K) hu) (pv 2) (pv 1) rfl))) (fun _ _ _ _=>(pv 2)) hv1 ZpS.nd rfl))),
   (ZU (Uo (k:=1) (DI.c (J4 (Zb (DE.toA (ZW (Zb (Zc (i:=0) (m:=.S) rfl (by decide)) Zd))) Zd))) Zlx (Zv (DE.toA (ZbA (g:=(!·)) (Zc (i:=2) (m:=.S) rfl (by decide)) (Zc (i:=1) (m:=.S) rfl (by decide))))) (DE.PF (DE.grd (Zc (i:=2) (m:=.S) rfl (by decide)))))), ?_⟩
 refine Pm.ref ZnP (g:=fun xs=>_) ?_
 rintro⟨b,l⟩ (hb:b.length<=1000)
 simp only[ZnP]
 walk_at "pd"
 rw[Um (p:=fun i=>decide ((i:Int) ∉ l)) (g:=fun(i:Nat)=>.int (i:Int)) (fun i hi=>by
  rw[ZuG]
  walk_at "pd"
  rw[Qs]
  walk_at "pd"
  by_cases e:(i:Int)∈l
  ·rw[decide_eq_true e,decide_eq_false (fun z=>z e)]
   walk_at "pd"
  ·rw[decide_eq_false e,decide_eq_true e]
   walk_at "pd")]
 walk_at "pd"
 unfold Z5
 rw[Zum,ZtZ];rfl
theorem Zpc {b l:List Int} (h:b.length<=1000):ZnP.fn [.lst (b.map PV.int),.lst (l.map PV.int)]=.ok (.lst ((Z5 b.length l).map PV.int)):=Pm.fn_eq ZnP (b,l) h fun(a:List Int×List Int) e=>by (simp only[ZnP,List.cons.injEq,PV.lst.injEq,PV.int.injEq,PV.str.injEq,PV.bl.injEq,PV.tup.injEq,ZI,and_true] at e ⊢;first|(simp only[e];done)|(subst e;rfl)|(rw[e]))
noncomputable def Zo4:Pm:=⟨List Int×Int,fun a=>[.tup (a.1.map PV.int),.int a.2],fun a=>0<=a.2/\a.2<a.1.length/\a.1.length<=1000,fun a=>.ok (Zcd (Zg9 a))⟩
theorem Ztd (T:Txt K mg) {f:Addr}{fd:FuncData} (F:Fun K "sow_pit" "sow_pit" ZoM f fd):JB P w K mg base CX0 1 f fd ["board", "pit"] (spF K 2 .F W0 Zo4.fn):=by
 refine F.okP Zow rfl rfl (fun cdv A outer s H E hr=>?_)
 have hu:=hr.units
 refine⟨_,_,⟨[],[],[],.F⟩,rfl,(Zg (Z2 (i:=2) Zow.nd rfl (by first|exact Or.inl rfl|exact Or.inr rfl) (Zo (Zw (K:=K)) rfl T.z_len ZY (Za (pv 0) Zf)))
   (Zg (Z2 (i:=3) Zow.nd rfl (by first|exact Or.inl rfl|exact Or.inr rfl) (Z6 Jz (ZC (Zp (K:=K)) (pv 0) (pv 1) (fun _ _=>rfl)) (pv 2)))
   (Zg (Z2 (i:=4) Zow.nd rfl (by first|exact Or.inl rfl|exact Or.inr rfl) (Z6 ZS (ZC (Zp (K:=K)) (pv 0) (pv 1) (fun _ _=>rfl)) (pv 2)))
   (Zg (QP (i:=5) Zow.nd rfl (Zjb (K:=K) (pv 0)) (fun _ _ _ _=>(Z6 J6 (pv 8) (pv 3))) rfl)
   (Zg (U8 (pv 3) (Qj (pv 5) (pv 1) JN))
   (Zg (Z2 (i:=6) Zow.nd rfl (by first|exact Or.inl rfl|exact Or.inr rfl) (pv 1))
   (Zg (J5 PassesOwn.never rfl (Jf rfl T.z_range (Za (pv 4) Zf)) (Jg (i:=7) Zow.nd rfl (by first|exact Or.inl rfl|exact Or.inr rfl)) (Zg (Z2 (i:=6) Zow.nd rfl (by first|exact Or.inl rfl|exact Or.inr rfl) (Z6 ZS (Z6 J6 (pv 6) Zi) (pv 2)))
   (Zl (ZiZ (pv 5) (pv 6) (ZfL (K:=K)) Zi ZkX JN))))
   (Zl (Z3 (VG (Za (pv 5) (Za (pv 6) Zf)))))))))))),
   (Zm (Γm:=[.S,.S,.P,.U,.U,.U,.U,.U]) (ZQ (i:=2) (ZW (Zb (Zc (i:=0) (m:=.S) rfl (by decide)) Zd)) (by decide))
   (Zm (Γm:=[.S,.S,.P,.P,.U,.U,.U,.U]) (ZQ (i:=3) (VL (Zx (te:=tC .non) (Zc (i:=0) (m:=.S) rfl (by decide)) (Zc (i:=1) (m:=.S) rfl (by decide))) (DE.toA (Zk (i:=2) rfl))) (by decide))
   (Zm (Γm:=[.S,.S,.P,.P,.P,.U,.U,.U]) (ZQ (i:=4) (ZV (Zx (te:=tC .non) (Zc (i:=0) (m:=.S) rfl (by decide)) (Zc (i:=1) (m:=.S) rfl (by decide))) (DE.toA (Zk (i:=2) rfl))) (by decide))
   (Zm (Γm:=[.S,.S,.P,.P,.P,.O,.U,.U]) (Zac (i:=5) (JU (DI.c (Zlq (DE.PZ (DE.grd (Zc (i:=0) (m:=.S) rfl (by decide)))))) (DE.PF (J8 (Zc (i:=8) (m:=.S) rfl (by decide)) (DE.toA (Zk (i:=3) rfl))))) (by decide))
   (Zm (Γm:=[.S,.S,.P,.P,.P,.O,.U,.U]) (Vd (i:=5) rfl (Zk (i:=3) rfl) (Zc (i:=1) (m:=.S) rfl (by decide)))
   (Zm (Γm:=[.S,.S,.P,.P,.P,.O,.P,.U]) (ZQ (i:=6) (DE.grd (Zc (i:=1) (m:=.S) rfl (by decide))) (by decide))
   (Zm (Γm:=[.S,.S,.P,.P,.P,.O,.P,.U]) (J7 (Γl:=[.S,.S,.P,.P,.P,.O,.P,.U]) (J4 (Zb (DE.toA (Zk (i:=4) rfl)) Zd)) rfl (Zep (i:=7) (by decide))
   (DS.out (Y:=⟨[.S,.S,.P,.P,.P,.O,.P,.P],[.S,.S,.P,.P,.P,.O,.P,.U],[.S,.S,.P,.P,.P,.O,.P,.U],.F⟩) (Y':=⟨[.S,.S,.P,.P,.P,.O,.P,.U],[.S,.S,.P,.P,.P,.O,.P,.U],[.S,.S,.P,.P,.P,.O,.P,.U],.F⟩) (Zm (Γm:=[.S,.S,.P,.P,.P,.O,.P,.P]) (ZQ (i:=6) (ZV (DE.toA (J8 (DE.toA (Zk (i:=6) rfl)) (DE.toA Zj))) (DE.toA (Zk (i:=2) rfl))) (by decide))
   (ZhC (i:=5) rfl rfl (DE.toA (Zk (i:=6) rfl)) (DE.toA Zj))) rfl rfl rfl rfl))
   (ZU (Q7 (ZE (JI (i:=5) rfl) (ZE (DE.PF (Zk (i:=6) rfl)) Jq))))))))))), ?_⟩
 refine Pm.ref Zo4 (g:=fun xs=>_) ?_
 rintro⟨ns,p⟩ ⟨h0,h1,h2⟩
 simp only at h0 h1 h2
 simp only[Zo4]
 walk_at "pu"
 rw[ZdW]
 walk_at "pu"
 rw[Qq h0 h1]
 walk_at "pu"
 rw[Zfn (Zgm 3 (by omega) (by omega))]
 walk_at "pu"
 rw[Qq h0 h1]
 walk_at "pu"
 rw[Qp (show (0:Int)<ns.length by omega)]
 walk_at "pu"
 rw[Zb1]
 walk_at "pu"
 rw[ZhR]
 walk_at "pu"
 rw[Zf6 (by simp;omega)]
 walk_at "pu"
 have hc:ZaP (fun x=>Zmd x (.int (ns.getD p.toNat 0/ns.length))) (ns.map PV.int)=.ok ((ns.map fun z=>z+ns.getD p.toNat 0/ns.length).map PV.int):=by
  rw[Za3 (g:=fun x=>match x with|.int z=>PV.int (z+ns.getD p.toNat 0/ns.length)|_=>.non)]
  ·simp[Function.comp_def]
  ·intro x hx
   obtain⟨z,_,rfl⟩:=ZtY.mp hx
   rfl
 rw[hc]
 walk_at "pu"
 rw[Qo h0 (by simp;omega),ZcS h0 h1]
 walk_at "pu"
 have o0:=Zup (ns.getD p.toNat 0) (show (ns.length:Int)≠0 by omega)
 have o1:=Zud (ns.getD p.toNat 0) (show (0:Int)<ns.length by omega)
 rw[Zdf (by omega)]
 walk_at "pu"
 generalize hs:ns.getD p.toNat 0/ns.length=rounds
 generalize ho:ns.getD p.toNat 0%ns.length=over at o0 o1
 generalize hb:(fun(x:PV) (ρ:List PV)=>_)=body
 obtain⟨ρ',e1,e2⟩:=Zd3 (b:=body) (xs:=ZbN 0 over.toNat) (ρ:=[.tup (ns.map PV.int),.int p,.int ns.length,.int rounds,.int over,.lst ((tab ns.length (ZbM ns p 0)).map PV.int),.int p,.non])
  (fun i ρ=>∃v,ρ=[.tup (ns.map PV.int),.int p,.int ns.length,.int rounds,.int over,.lst ((tab ns.length (ZbM ns p i)).map PV.int),.int ((p+i)%ns.length),v]) ⟨_,by rw[Int.natCast_zero,Int.add_zero,Zu1 h0 h1]⟩ (by
  rintro i x ρ hx ⟨v,rfl⟩
  obtain⟨hi,rfl⟩:=J9 hx
  subst hb
  have m1:=Zaz h0 h1 (show (0:Int)<=i by omega) (by omega)
  have m2:=Zaz h0 h1 (show (0:Int)<=(i:Int)+1 by omega) (by omega)
  have e:((p+(i:Int))%ns.length+1)%ns.length=(p+((i:Int)+1))%ns.length:=by
   rw[m1,m2]
   split
   ·rw[show p+(i:Int)+1=p+((i:Int)+1) by omega,m2]
   ·rw[Zu1 (by omega) (by omega)];split<;>omega
  have b:0<=(p+((i:Int)+1))%ns.length/\(p+((i:Int)+1))%ns.length<ns.length:=by rw[m2];split<;>omega
  walk_at "pu"
  rw[Qp (by omega)]
  walk_at "pu"
  rw[e,UR b.1 (by rw[Jj];exact b.2)]
  walk_at "pu"
  rw[UZ (by omega)]
  have hst:=ZcT h0 h1 (i:=i) (by omega)
  have hset:=Qo (ns:=tab ns.length (ZbM ns p i)) (k:=(p+((i:Int)+1))%ns.length) (y:=ZbM ns p i ((p+((i:Int)+1))%ns.length).toNat+1) b.1 (by rw[Jj];exact b.2)
  rw[hst] at hset
  rw[hset]
  walk_at "pu"
  exact JG ⟨_,by rw[show ((i+1:Nat):Int)=(i:Int)+1 by omega]⟩)
 obtain⟨v,rfl⟩:=e2
 rw[e1]
 walk_at "pu"
 rw[Jp,Zu0 o0]
 show Rr.ok (PV.tup _)=Rr.ok (PV.tup _)
 unfold Zg9 UP Zm8
 rw[ho]
theorem Zqn {ns:List Int}{p:Int} (h:0<=p/\p<ns.length/\ns.length<=1000):Zo4.fn [.tup (ns.map PV.int),.int p]=.ok (Zcd (Zg9 (ns,p))):=
 Pm.fn_eq Zo4 (ns,p) h fun⟨ns',k'⟩ e=>by
  simp only[Zo4,List.cons.injEq,PV.tup.injEq,PV.int.injEq,and_true] at e ⊢
  rw[Jn e.1,e.2]
noncomputable def ZnF:Pm:=⟨List Int×List Int,fun a=>[Jh a.1,.lst (a.2.map PV.int)],fun a=>(∀p∈a.2,0<=p/\p<a.1.length)/\a.1.length<=1000/\a.2.length<=1000,fun a=>.ok (.lst ((Vv a.2 a.1).map ZgP))⟩
theorem Ziy {i:Int}{b:List Int}:grd (.tup [.int i,Jh b])=.ok (.tup [.int i,Jh b]):=by
 unfold grd
 simp only[PV.flat,PV.flats,Vc,Bool.and_self,if_true]
theorem Zsc (T:Txt K mg) {f:Addr}{fd:FuncData} (F:Fun K "sowings_of" "sowings_of" ZnL f fd):JB P w K mg base CX0 2 f fd ["board", "pits"] (spF K 2 .F W0 ZnF.fn):=by
 have Ztw:=Vz (P:=P) (w:=w) (base:=base) T.Ztt Ztk (fun F=>Ztd T F)
 refine F.okP Zp8 rfl rfl (fun cdv A outer s H E hr=>?_)
 have hu:=hr.units
 refine⟨_,_,⟨[],[],[],.F⟩,rfl,(Zl (Z3 (Zav (Jk (K:=K) (pv 1)) (Ql Zp8.nd) (fun _ _ _ _=>(ZeY (fun _ _ h=>h) (Zy Zfu (ZC (Zp (K:=K)) (pv 0) (pv 2) (fun _ _=>rfl)) Zi (Z9 _)))) (fun _ _ _ _=>(VG (Za (pv 2) (Za (ZG (Jr (K:=K)) rfl T.z_tuple JL (Za (ZC (Zp (K:=K)) (Zr Ztw (hr.mono (by decide)) rfl (Za (pv 0) (Za (pv 2) Zf))) Zi (fun _ _=>rfl)) Zf)) Zf)))) hv1 Zp8.nd rfl))),
   (ZU (Uo (k:=1) (DI.c (Jx (Vl (i:=1) rfl))) Zlx (Zv (DE.toA (Zgd (Zx (te:=tC .non) (Zc (i:=0) (m:=.S) rfl (by decide)) (Zc (i:=2) (m:=.S) rfl (by decide))) (DE.toA Zj)))) (DE.PF (DE.grd (Q8 (Zb (Zc (i:=2) (m:=.S) rfl (by decide)) (Zb (Vm (Zb (Zx (te:=tC .non) (DE.toA (Zer (Ze (Ze Zq)) (Zb (Zc (i:=0) (m:=.S) rfl (by decide)) (Zb (Zc (i:=2) (m:=.S) rfl (by decide)) Zd)))) (DE.toA Zj)) Zd)) Zd))))))), ?_⟩
 refine Pm.ref ZnF (g:=fun xs=>_) ?_
 rintro⟨b,Q⟩ ⟨h0,h1,h2⟩
 simp only at h0 h1 h2
 simp only[ZnF]
 walk_at "pd"
 rw[Zlj (q:=PV.int) (p:=fun p=>decide (0<b.getD p.toNat 0)) (g:=fun p=>ZgP (p,UP b p)) (fun p hp=>by
  have hp':=h0 p hp
  unfold Jh
  walk_at "pd"
  rw[Qq (by omega) (by omega)]
  walk_at "pd"
  by_cases c:0<b.getD p.toNat 0
  ·rw[decide_eq_true c]
   walk_at "pd"
   rw[Zqn ⟨by omega,by omega,h1⟩]
   simp only[Zcd,Zg9]
   walk_at "pd"
   rw[show Qn [PV.lst ((UP b p).map PV.int)]=.ok (Jh (UP b p)) from rfl]
   walk_at "pd"
   rw[Ziy]
   walk_at "pd"
   rfl
  ·rw[decide_eq_false c]
   walk_at "pd")]
 walk_at "pd"
 unfold Vv
 rw[Zum];rfl
theorem ZoO {b Q:List Int} (h:(∀p∈Q,0<=p/\p<b.length)/\b.length<=1000/\Q.length<=1000):ZnF.fn [Jh b,.lst (Q.map PV.int)]=.ok (.lst ((Vv Q b).map ZgP)):=Pm.fn_eq ZnF (b,Q) h (fun(a:List Int×List Int) e=>by
 have e':a=(b,Q):=by
  simp only[ZnF,Jh,List.cons.injEq,PV.tup.injEq,PV.lst.injEq,and_true] at e
  exact Prod.ext (Jn e.1) (Jn e.2)
 rw[e'])
theorem Zlb {b:List Int}{i:Int}:grd (.tup [Jh b,.int i])=.ok (.tup [Jh b,.int i]):=by
 unfold grd
 simp only[PV.flat,PV.flats,Vc,Bool.and_self,if_true]
theorem Za9 {t:List Int}:grd (Jh t)=.ok (Jh t):=Zb1
theorem ZeB:∀{a b:List (List Int)},a.map tI=b.map tI->a=b
 |[],[],_=>rfl
 |[],y::b,h=>by simp at h
 |x::a,[],h=>by simp at h
 |x::a,y::b,h=>by
  simp only[ZtP,List.cons.injEq] at h
  rw[ZeC h.1,ZeB h.2]
theorem VW {x:List Int}{bs:List (List Int)}:tI x∈bs.map tI ↔ x∈bs:=by
 constructor
 ·intro h
  obtain⟨y,hy,e⟩:=ZtY.mp h
  rw[<- ZeC e];exact hy
 ·exact fun h=>List.mem_map_of_mem h
structure NlP (lv:List (List Int)) (Q:List Int) (bs:List (List Int)) (vs:List PV):Prop where
 hl:∀x∈lv,(∀p∈Q,0<=p/\p<x.length)/\x.length<=1000
 hq:Q.length<=1000
 ln:vs.length=bs.length
 sz:bs.length+lv.length*Q.length<=900000
 fl:PV.flats vs=true
theorem ZcU (Q x:List Int):(Vv Q x).length<=Q.length:=by
 unfold Vv
 rw[ZtG]
 exact Zvn _ _
structure NlI (n:Nat) (st:NB):Prop where
 ln:st.2.2.length=st.2.1.length
 sz:st.2.1.length<=n
 fz:st.1.length<=n
theorem NlI.step {n:Nat}{st:NB} (h:NlI n st) (x:List Int) (y:Int×List Int):NlI (n+1) (stB x st y):=by
 have h1:=h.ln
 have h2:=h.sz
 have h3:=h.fz
 unfold stB
 split
 ·exact⟨h1,by omega,by omega⟩
 ·exact⟨by simp[h1],by simp;omega,by simp;omega⟩
theorem NlI.fold {x:List Int}:∀{L:List (Int×List Int)}{n:Nat}{st:NB},NlI n st->NlI (n+L.length) (L.foldl (stB x) st)
 |[],n,st,h=>h
 |y::L,n,st,h=>by
  have:=NlI.fold (x:=x) (L:=L) (h.step x y)
  rw[Zua,show n+(L.length+1)=n+1+L.length by omega]
  exact this
theorem NlI.up {n m:Nat}{st:NB} (h:NlI n st) (hm:n<=m):NlI m st:=⟨h.ln,ZtV h.sz hm,ZtV h.fz hm⟩
theorem NlI.lv {Q:List Int}:∀{lv:List (List Int)}{n:Nat}{st:NB},NlI n st->NlI (n+lv.length*Q.length) (lvB Q lv st)
 |[],n,st,h=>by simpa[lvB] using h
 |x::lv,n,st,h=>by
  have h1:NlI (n+Q.length) (bdB Q x st):=(NlI.fold (x:=x) (L:=Vv Q x) h).up (by have:=ZcU Q x;omega)
  have:=NlI.lv (Q:=Q) (lv:=lv) h1
  rw[Zua,Nat.add_mul,show n+(lv.length*Q.length+1*Q.length)=n+Q.length+lv.length*Q.length by omega]
  exact this
noncomputable def ZnG:Pm:=⟨List (List Int)×List Int×List (List Int)×List PV,fun a=>[.box none (.dt (a.2.2.1.map tI)) a.2.2.2,.lst (a.1.map Jh),.lst (a.2.1.map PV.int)],fun a=>NlP a.1 a.2.1 a.2.2.1 a.2.2.2,fun a=>.ok (.tup [.lst ((lvB a.2.1 a.1 ([],a.2.2)).1.map Jh),.box none (.dt ((lvB a.2.1 a.1 ([],a.2.2)).2.1.map tI)) (lvB a.2.1 a.1 ([],a.2.2)).2.2])⟩
theorem Zsd (T:Txt K mg) {f:Addr}{fd:FuncData} (F:Fun K "next_level" "next_level" ZnM f fd):JB P w K mg base CX0 3 f fd ["level", "pits", "came_from"] (spM K 2 2 ZnG.fnM):=by
 have ZsA:=Vz (P:=P) (w:=w) (base:=base) T.Zsz Zsk (fun F=>Zsc T F)
 refine F.okM (n:=2) (j:=2) ZoS rfl rfl (by decide) (fun cdv A outer s H E hr=>?_)
 have hu:=hr.units
 refine⟨_,_,⟨[.S,.S,.O,.U,.U,.U],[],[],.N⟩,rfl,rfl,(Zg (Z2 (i:=3) ZoS.nd rfl (by first|exact Or.inl rfl|exact Or.inr rfl) (Va Zf))
   (Zg (J5 PassesOwn.never rfl (Jk (K:=K) (pv 0)) (Jg (i:=4) ZoS.nd rfl (by first|exact Or.inl rfl|exact Or.inr rfl)) (Zl (J5 PassesOwn.never rfl (Jk (K:=K) (Zr ZsA (hr.mono (by decide)) rfl (Za (pv 4) (Za (pv 1) Zf)))) (Jg (i:=5) ZoS.nd rfl (by first|exact Or.inl rfl|exact Or.inr rfl)) (Zl (Jm (ZeS (Zbh (hu1 hu) (ZC (Zp (K:=K)) (pv 5) Zi (fun _ _=>rfl)) (pv 2))) (Zg (ZeT (hu1 hu) (pv 2) (ZC (Zp (K:=K)) (pv 5) Zi (fun _ _=>rfl)) (VG (Za (pv 4) (Za (ZC (Zp (K:=K)) (pv 5) Zi (fun _ _=>rfl)) Zf))) rfl)
   (Zl (J3 (ZdS PySem.F.plainAttrs_list PySem.F.slot_list_append PySem.F.type_list_append Vb (pv 3) (Za (ZC (Zp (K:=K)) (pv 5) Zi (fun _ _=>rfl)) Zf))))) ZA)))))
   (Zl (Z3 (pv 3))))),
   (Zm (Γm:=[.S,.S,.O,.O,.U,.U]) (ZM (i:=3) (JW Jq) (by decide))
   (Zm (Γm:=[.S,.S,.O,.O,.U,.U]) (J7 (Γl:=[.S,.S,.O,.O,.U,.U]) (Jx (Vl (i:=0) rfl)) rfl (Zep (i:=4) (by decide))
   (DS.out (Y:=⟨[.S,.S,.O,.O,.P,.U],[.S,.S,.O,.O,.U,.U],[.S,.S,.O,.O,.U,.U],.N⟩) (Y':=⟨[.S,.S,.O,.O,.U,.U],[.S,.S,.O,.O,.U,.U],[.S,.S,.O,.O,.U,.U],.N⟩) (J7 (Γl:=[.S,.S,.O,.O,.P,.U]) (Jx (DE.FZ (Zer (Ze (Ze Zq)) (Zb (DE.toA (Zk (i:=4) rfl)) (Zb (Zc (i:=1) (m:=.S) rfl (by decide)) Zd))))) rfl (Zep (i:=5) (by decide))
   (DS.out (Y:=⟨[.S,.S,.O,.O,.P,.P],[.S,.S,.O,.O,.P,.U],[.S,.S,.O,.O,.P,.U],.N⟩) (Y':=⟨[.S,.S,.O,.O,.P,.U],[.S,.S,.O,.O,.P,.U],[.S,.S,.O,.O,.P,.U],.N⟩) (Jo (Zb6 (DE.toA (ZbB (Zx (te:=tC .non) (DE.toA (Zk (i:=5) rfl)) (DE.toA Zj)) (Zc (i:=2) (m:=.O) rfl (by decide)))))
   (Zm (Γm:=[.S,.S,.O,.O,.P,.P]) (Zd7 (i:=2) rfl (DE.PF (DE.grd (Q8 (Zb (DE.toA (Zk (i:=4) rfl)) (Zb (Zx (te:=tC .non) (DE.toA (Zk (i:=5) rfl)) (DE.toA Zj)) Zd))))) (Zx (te:=tC .non) (DE.toA (Zk (i:=5) rfl)) (DE.toA Zj)))
   (ZaD (i:=3) rfl rfl (DE.PF (DE.grd (Zx (te:=tC .non) (DE.toA (Zk (i:=5) rfl)) (DE.toA Zj))))))
   ZB) rfl rfl rfl rfl)) rfl rfl rfl rfl))
   (Zj9 (j:=2) (JI (i:=3) rfl) rfl))), ?_⟩
 refine Pm.refM2 ZnG ?_
 rintro⟨lv,Q,bs,vs⟩ (hp:NlP lv Q bs vs) a b' xs e
 cases e
 simp only[ZnG]
 have hq:=hp.hq
 have hz:=hp.sz
 walk_at "pd"
 simp only[ins,ZlX]
 walk_at "pd"
 generalize hw:UV _ _ _=W
 obtain⟨ρ',rfl,v,w,rfl⟩:=ZP hw (fun i ρ=>∃v w,ρ=[.lst (lv.map Jh),.lst (Q.map PV.int),.box (some a) (.dt ((lvB Q (lv.take i) ([],bs,vs)).2.1.map tI)) (lvB Q (lv.take i) ([],bs,vs)).2.2,.lst ((lvB Q (lv.take i) ([],bs,vs)).1.map Jh),v,w]) ⟨_,_,rfl⟩ (by
  rintro i x ρ hx ⟨v,w,rfl⟩
  rw[ZtT] at hx
  obtain⟨b,hb,rfl⟩:=Zur.mp hx
  have hi:i<lv.length:=(ZtC.mp hb).1
  obtain⟨b1,b2⟩:=hp.hl b (ZtA hb)
  have hs:lvB Q (lv.take (i+1)) ([],bs,vs)=(Vv Q b).foldl (stB b) (lvB Q (lv.take i) ([],bs,vs)):=by
   unfold lvB
   rw[ZuS,hb,Zv8];rfl
  rw[hs]
  have I0:NlI (bs.length+(lv.take i).length*Q.length) (lvB Q (lv.take i) ([],bs,vs)):=NlI.lv ⟨hp.ln,ZtE _,Zub _⟩
  have hsz:bs.length+(lv.take i).length*Q.length+Q.length<=900000:=by
   have h1:(lv.take i).length=i:=by rw[ZtR];omega
   rw[h1]
   have h2:(i+1)*Q.length<=lv.length*Q.length:=Nat.mul_le_mul_right _ hi
   rw[Nat.add_mul] at h2
   omega
  generalize lvB Q (lv.take i) ([],bs,vs)=st0 at I0
  walk_at "pd"
  rw[Za9]
  walk_at "pd"
  rw[ZoO ⟨b1,b2,hq⟩]
  walk_at "pd"
  have hsl:=ZcU Q b
  generalize Vv Q b=SL at hsl
  generalize hw2:UV _ _ _=W2
  obtain⟨ρ2,rfl,v2,rfl⟩:=ZP hw2 (fun n ρ=>∃v,ρ=[.lst (lv.map Jh),.lst (Q.map PV.int),.box (some a) (.dt (((SL.take n).foldl (stB b) st0).2.1.map tI)) ((SL.take n).foldl (stB b) st0).2.2,.lst (((SL.take n).foldl (stB b) st0).1.map Jh),Jh b,v]) ⟨_,rfl⟩ (by
   rintro n x ρ hx ⟨v,rfl⟩
   rw[ZtT] at hx
   obtain⟨y,hy,rfl⟩:=Zur.mp hx
   have hn:n<SL.length:=(ZtC.mp hy).1
   have hs2:(SL.take (n+1)).foldl (stB b) st0=stB b ((SL.take n).foldl (stB b) st0) y:=by
    rw[ZuS,hy,Zv8];rfl
   rw[hs2]
   have I:=NlI.fold (x:=b) (L:=SL.take n) I0
   have htl:(SL.take n).length<=Q.length:=by rw[ZtR];omega
   generalize (SL.take n).foldl (stB b) st0=st at I
   obtain⟨i1,i2,i3⟩:=I
   unfold ZgP
   rw[Ziy]
   walk_at "pd"
   rw[Zfp]
   walk_at "pd"
   unfold stB
   by_cases c:y.2∈st.2.1
   ·obtain⟨z,hz⟩:=ZaN (ks:=st.2.1.map tI) (xs:=st.2.2) (by rw[ZtG];omega) (VW.mpr c)
    rw[hz,if_pos c]
    walk_at "pd"
    exact JG ⟨_,rfl⟩
   ·rw[ZaM (fun z=>c (VW.mp z)),if_neg c]
    walk_at "pd"
    rw[Zlb]
    walk_at "pd"
    rw[Zfo (by simp only[PV.flat,PV.flats,Vc,Bool.and_self]) (by omega),Zbd (fun z=>c (VW.mp z)),Zbc (fun z=>c (VW.mp z))]
    walk_at "pd"
    rw[Za9]
    walk_at "pd"
    rw[Uc (by rw[ZtG];omega)]
    walk_at "pd"
    refine JG ⟨.tup [.int y.1,Jh y.2], ?_⟩
    rw[Zuy,Zuy]
    rfl)
  walk_at "pd"
  refine JG ⟨Jh b,v2, ?_⟩
  rw[ZtG,ZuV])
 walk_at "pd"
 rw[ZtG,ZuV]
 rw[ZgU]
 rfl
theorem ZoP {lv:List (List Int)}{Q:List Int}{bs:List (List Int)}{vs:List PV} (h:NlP lv Q bs vs):ZnG.fnM (.box none (.dt (bs.map tI)) vs) [.lst (lv.map Jh),.lst (Q.map PV.int)]=.ok (.tup [.lst ((lvB Q lv ([],bs,vs)).1.map Jh),.box none (.dt ((lvB Q lv ([],bs,vs)).2.1.map tI)) (lvB Q lv ([],bs,vs)).2.2]):=Pm.fn_eq ZnG (lv,Q,bs,vs) h (fun(a:List (List Int)×List Int×List (List Int)×List PV) e=>by
 have e':a=(lv,Q,bs,vs):=by
  simp only[ZnG,List.cons.injEq,PV.lst.injEq,PV.box.injEq,and_true] at e
  obtain⟨e1,e2,e3⟩:=e
  refine Prod.ext (VU e2) (Prod.ext (Jn e3) (Prod.ext (ZeB ?_) e1.2.2))
  have:=e1.2.1
  injection this
 rw[e'])
theorem Zho {b:List Int}:Zdi (Jh b) .non=.ok (.box none (.dt [tI b]) [.non]):=by
 rw[Zal]
 unfold Zdi
 simp only[VA]
noncomputable def Zn5:Pm:=⟨List Int×List Int,fun a=>[.lst (a.1.map PV.int),.lst (a.2.map PV.int)],fun a=>a.1.length<=24/\∃s,ZcB a.1.length s (Z5 a.1.length a.2) a.1,fun a=>.ok (.box none (.dt ((Uy (Z5 a.1.length a.2) a.1).map tI)) (wk (Z5 a.1.length a.2) a.1 (wkN (Z5 a.1.length a.2) a.1)).2.2)⟩
theorem Zsr (T:Txt K mg) {f:Addr}{fd:FuncData} (F:Fun K "walk_from" "walk_from" ZnY f fd):JB P w K mg base CX0 4 f fd ["board", "barred"] (spF K 2 .F W0 Zn5.fn):=by
 have ZsZ:=Vz (P:=P) (w:=w) (base:=base) T.ZsN Zs5 (fun F=>Zst T F)
 have ZsB:=Vz (P:=P) (w:=w) (base:=base) T.Zs0 Zsl (fun F=>Zsd T F)
 refine F.okP ZoI rfl rfl (fun cdv A outer s H E hr=>?_)
 have hu:=hr.units
 refine⟨_,_,⟨[],[],[],.F⟩,rfl,(Zg (Z2 (i:=2) ZoI.nd rfl (by first|exact Or.inl rfl|exact Or.inr rfl) (Zr ZsZ (hr.mono (by decide)) rfl (Za (pv 0) (Za (pv 1) Zf))))
   (Zg (Z2 (i:=3) ZoI.nd rfl (by first|exact Or.inl rfl|exact Or.inr rfl) (ZeV (hu1 hu) (ZG (Jr (K:=K)) rfl T.z_tuple JL (Za (pv 0) Zf)) Zbe))
   (Zg (Z2 (i:=4) ZoI.nd rfl (by first|exact Or.inl rfl|exact Or.inr rfl) (Va (Za (ZG (Jr (K:=K)) rfl T.z_tuple JL (Za (pv 0) Zf)) Zf)))
   (Zg (Zdb PassesOwn.never (ZiY (K:=K) (pv 4)) (Zl (Z2 (i:=4) ZoI.nd rfl (by first|exact Or.inl rfl|exact Or.inr rfl) (Zr ZsB (hr.mono (by decide)) rfl (Za (pv 4) (Za (pv 2) (Za (pv 3) Zf)))))))
   (Zl (Z3 (pv 3))))))),
   (Zm (Γm:=[.S,.S,.O,.U,.U]) (ZM (i:=2) (Zer (Ze (Ze Zq)) (Zb (Zc (i:=0) (m:=.S) rfl (by decide)) (Zb (Zc (i:=1) (m:=.S) rfl (by decide)) Zd))) (by decide))
   (Zm (Γm:=[.S,.S,.O,.O,.U]) (ZM (i:=3) (Zge (Vm (Zb (Zc (i:=0) (m:=.S) rfl (by decide)) Zd)) Zd8) (by decide))
   (Zm (Γm:=[.S,.S,.O,.O,.O]) (ZM (i:=4) (JW (ZE (DE.PF (DE.grd (Vm (Zb (Zc (i:=0) (m:=.S) rfl (by decide)) Zd)))) Jq)) (by decide))
   (Zm (Γm:=[.S,.S,.O,.O,.O]) (Zd6 (Γ:=[.S,.S,.O,.O,.O]) (Zln (Zc (i:=4) (m:=.O) rfl (by decide)))
   (ZhB (l:=4) (ZjC (i:=3) rfl (Ze (Ze Zq)) (ZdB (ZfW (l:=4) (md:=.O) rfl (by decide)) (ZdB (ZfW (l:=2) (md:=.O) rfl (by decide)) (ZhM ZjH)))) (by decide)))
   (ZU (JI (i:=3) rfl)))))), ?_⟩
 refine Pm.ref Zn5 (g:=fun xs=>_) ?_
 rintro⟨b,l⟩ ⟨hl,s,F⟩
 simp only at hl F
 simp only[Zn5]
 walk_at "pd"
 rw[Zpc (by omega)]
 have hpl:=Zb3 b.length l
 unfold Uy
 generalize Z5 b.length l=Q at F hpl
 walk_at "pd"
 obtain⟨w1,w2,w3⟩:=F.end
 have hT:Qn [PV.lst (b.map PV.int)]=.ok (Jh b):=rfl
 rw[hT]
 walk_at "pd"
 rw[Zho]
 walk_at "pd"
 rw[hT]
 walk_at "pd"
 rw[Za9]
 walk_at "pd"
 generalize hw:VT _ _ _=W
 obtain⟨ρ',rfl,rfl⟩:=UY hw (wkN Q b) (fun i ρ=>ρ=[.lst (b.map PV.int),.lst (l.map PV.int),.lst (Q.map PV.int),.box none (.dt ((wk Q b i).2.1.map tI)) (wk Q b i).2.2,.lst ((wk Q b i).1.map Jh)]) rfl (by
  rintro i ρ hi rfl
  have W:=UC Q b i
  have hle:=F.le i
  have hsub:(wk Q b i).1.length<=1000:=by
   cases i with
   |zero=>simp[wk]
   |succ i =>
    have:=QK Q b i
    rw[this,Zus] at hle
    omega
  constructor
  ·walk_at "pd"
   obtain⟨y,ys,e⟩:=List.exists_cons_of_ne_nil (w3 i hi)
   rw[e];rfl
  ·walk_at "pd"
   rw[ZhQ (ZoP (lv:=(wk Q b i).1) (Q:=Q) (bs:=(wk Q b i).2.1) (vs:=(wk Q b i).2.2) ⟨fun x hx=>by
    have B:=(W.re x (W.sub x hx)).bs F.hP F.hb
    exact⟨fun p hp=>by have:=F.hP p hp;have:=B.1;omega,by have:=B.1;omega⟩,by omega,W.ln,by
    have:(wk Q b i).1.length*Q.length<=1000*24:=Nat.mul_le_mul hsub (by omega)
    omega,W.fl⟩)]
   walk_at "pd"
   exact JG rfl) (by
  rintro ρ rfl
  rw[w2]
  walk_at "pd"
  rfl)
 walk_at "pd"
theorem Zpa {b l:List Int} (h:b.length<=24/\∃s,ZcB b.length s (Z5 b.length l) b):Zn5.fn [.lst (b.map PV.int),.lst (l.map PV.int)]=.ok (.box none (.dt ((Uy (Z5 b.length l) b).map tI)) (wk (Z5 b.length l) b (wkN (Z5 b.length l) b)).2.2):=Pm.fn_eq Zn5 (b,l) h fun(a:List Int×List Int) e=>by (simp only[Zn5,List.cons.injEq,PV.lst.injEq,PV.int.injEq,PV.str.injEq,PV.bl.injEq,PV.tup.injEq,ZI,and_true] at e ⊢;first|(simp only[e];done)|(subst e;rfl)|(rw[e]))
theorem Zbf:Zn5.calm:=fun a q h=>by (simp only[Zn5] at h;cases h)
noncomputable def Zno:Pm:=⟨List (List Int),fun ts=>[.lst (ts.map Jh)],fun ts=>(∀t∈ts,t≠[]/\t.length<=1000)/\ts.length<=100000,fun ts=>.ok (.lst ((ZdP ts).map Vp))⟩
theorem Zr4 (T:Txt K mg) {f:Addr}{fd:FuncData} (F:Fun K "rising_boards" "rising_boards" Znv f fd):JB P w K mg base CX0 1 f fd ["boards"] (spF K 1 .F W0 Zno.fn):=by
 refine F.okP ZpN rfl rfl (fun cdv A outer s H E hr=>?_)
 have hu:=hr.units
 refine⟨_,_,⟨[],[],[],.F⟩,rfl,(Zl (Z3 (U0 (Jk (K:=K) (Zo (Zc4 (K:=K)) rfl T.z_sorted Zgz (Za (pv 0) Zf))) (fun _ _ _ _=>(ZG (Jl (K:=K)) rfl T.z_list Js (Za (pv 1) Zf))) ZpN.nd rfl))),
   (ZU (JU (DI.c (Jx (DE.FZ (ZhF (Zb (Zc (i:=0) (m:=.S) rfl (by decide)) Zd))))) (JT (Zb (Zc (i:=1) (m:=.S) rfl (by decide)) Zd)))), ?_⟩
 refine Pm.ref Zno (g:=fun xs=>_) ?_
 rintro(ts:List (List Int)) ⟨h1,h2⟩
 simp only[Zno]
 walk_at "pd"
 have hl:(ZdP ts).length=ts.length:=(JE ts).length_eq
 rw[Zfd ⟨fun t ht=>(h1 t ht).1,by omega⟩,Zip Vc (by omega)]
 walk_at "pd"
 rw[Za3 (g:=fun x=>match x with|.tup ys=>.lst ys|_=>.non) (fun x hx=>by
  obtain⟨t,ht,rfl⟩:=ZtY.mp hx
  have:=(h1 t ((JE ts).mem_iff.mp ht)).2
  unfold Jh
  show ZdV [.tup (t.map PV.int)]=_
  simp only[ZdV]
  rw[Qv (by omega)])]
 walk_at "pd"
 rw[Zum];rfl
theorem Zoo {ts:List (List Int)} (h:(∀t∈ts,t≠[]/\t.length<=1000)/\ts.length<=100000):Zno.fn [.lst (ts.map Jh)]=.ok (.lst ((ZdP ts).map Vp)):=Pm.fn_eq Zno ts h (fun(a:List (List Int)) e=>by
 have e':a=ts:=by
  simp only[Zno,List.cons.injEq,PV.lst.injEq,and_true] at e
  exact VU e
 rw[e'])
theorem UE:Zno.calm:=fun a q h=>by (simp only[Zno] at h;cases h)
theorem Zj2 {b:List Int}{i:Int}:grd (.tup [Jh b,.int i])=.ok (.tup [Jh b,.int i]):=by
 unfold grd
 simp only[PV.flat,PV.flats,Vc,Bool.and_self,if_true]
noncomputable def Zcw (p:Int):PV:=.tup [.str "sow",.int p]
noncomputable def ZnX:Pm:=⟨List Int×List (List Key)×List PV,fun a=>[Jh a.1,.box none (.dt a.2.1) a.2.2],fun a=>∃N ys ps,ZcC a.2.1 a.2.2 N ys ps/\ys 0=a.1/\N<=a.2.1.length/\N<=100000,fun a=>.ok (.lst ((Zjj a.2.1 a.2.2 (a.2.1.length+1) a.1).reverse.map Zcw))⟩
theorem Zte (T:Txt K mg) {f:Addr}{fd:FuncData} (F:Fun K "plan_to" "plan_to" ZoN f fd):JB P w K mg base CX0 1 f fd ["goal", "came_from"] (spF K 2 .F W0 ZnX.fn):=by
 refine F.okP Zqv rfl rfl (fun cdv A outer s H E hr=>?_)
 have hu:=hr.units
 refine⟨_,_,⟨[],[],[],.F⟩,rfl,(Zg (Z2 (i:=2) Zqv.nd rfl (by first|exact Or.inl rfl|exact Or.inr rfl) (Va Zf))
   (Zg (Z2 (i:=3) Zqv.nd rfl (by first|exact Or.inl rfl|exact Or.inr rfl) (ZeW (hu1 hu) (pv 1) (pv 0) (fun _ _=>rfl)))
   (Zg (Zdb PassesOwn.never (Zy Zjk (pv 3) Zbe (Z9 _)) (Zg (J3 (ZdS PySem.F.plainAttrs_list PySem.F.slot_list_append PySem.F.type_list_append Vb (pv 2) (Za (VG (Za JQ (Za (ZC (Zp (K:=K)) (pv 3) Zi (fun _ _=>rfl)) Zf))) Zf)))
   (Zl (Z2 (i:=3) Zqv.nd rfl (by first|exact Or.inl rfl|exact Or.inr rfl) (ZeW (hu1 hu) (pv 1) (ZC (Zp (K:=K)) (pv 3) Zi (fun _ _=>rfl)) (fun _ _=>rfl))))))
   (Zg (J3 (Zk7 PySem.F.plainAttrs_list PySem.F.slot_list_reverse PySem.F.type_list_reverse ZdZ (pv 2)))
   (Zl (Z3 (pv 2))))))),
   (Zm (Γm:=[.S,.S,.O,.U]) (ZM (i:=2) (JW Jq) (by decide))
   (Zm (Γm:=[.S,.S,.O,.P]) (ZQ (i:=3) (DE.grd (Zgf (Zc (i:=1) (m:=.S) rfl (by decide)) (Zc (i:=0) (m:=.S) rfl (by decide)))) (by decide))
   (Zm (Γm:=[.S,.S,.O,.P]) (Zd6 (Γ:=[.S,.S,.O,.P]) (Zv (DE.toA (ZjF (DE.toA (Zk (i:=3) rfl)))))
   (Zm (Γm:=[.S,.S,.O,.P]) (ZaD (i:=2) rfl rfl (DE.PF (DE.grd (Q8 (Zb (DE.toA JS) (Zb (Zx (te:=tC .non) (DE.toA (Zk (i:=3) rfl)) (DE.toA Zj)) Zd))))))
   (ZQ (i:=3) (DE.grd (Zgf (Zc (i:=1) (m:=.S) rfl (by decide)) (Zx (te:=tC .non) (DE.toA (Zk (i:=3) rfl)) (DE.toA Zj)))) (by decide))))
   (Zm (Γm:=[.S,.S,.O,.P]) (Zj8 (i:=2) rfl)
   (ZU (JI (i:=2) rfl)))))), ?_⟩
 refine Pm.ref ZnX (g:=fun xs=>_) ?_
 rintro⟨g,ks,xs⟩ ⟨N,ys,ps,C,h0,hN,hN2⟩
 simp only at C h0 hN
 simp only[ZnX]
 have ho:=C.org (ks.length+1) 0 (by omega) (by omega)
 rw[h0,Nat.sub_zero] at ho
 rw[ho]
 have org:∀t,t<=N->atK ks xs (tI (ys t))=some (if t=N then .non else .tup [Jh (ys (t+1)),.int (ps t)]):=fun t ht=>by
  by_cases c:t=N
  ·subst c;rw[C.last,if_pos rfl]
  ·rw[C.up t (by omega),if_neg c]
 walk_at "pd"
 rw[<- h0,Zfq (org 0 (by omega))]
 have hg:∀t,grd (if t=N then PV.non else .tup [Jh (ys (t+1)),.int (ps t)])=.ok (if t=N then PV.non else .tup [Jh (ys (t+1)),.int (ps t)]):=fun t=>by
  split
  ·rfl
  ·exact Zj2
 simp only[Rr.bind_ok]
 rw[hg 0]
 walk_at "pd"
 generalize hw:VT _ _ _=W
 obtain⟨ρ',rfl,rfl⟩:=UY hw N (fun t ρ=>ρ=[Jh (ys 0),.box none (.dt ks) xs,.lst ((List.range t).map fun k=>Zcw (ps k)),if t=N then .non else .tup [Jh (ys (t+1)),.int (ps t)]]) rfl (by
  rintro t ρ ht rfl
  rw[if_neg (show ¬t=N by omega)]
  constructor
  ·walk_at "pd"
   rfl
  ·walk_at "pd"
   rw[Uc (by simp;omega)]
   walk_at "pd"
   rw[Zfq (org (t+1) (by omega))]
   walk_at "pd"
   rw[hg]
   walk_at "pd"
   refine JG ?_
   rw[Zvy,Zuy]
   rfl) (by
  rintro ρ rfl
  rw[if_pos rfl]
  walk_at "pd")
 walk_at "pd"
 rw[Zf2 (by rw[<- ZvD];exact Ul (fun k=>rfl) _) (by simp;omega)]
 walk_at "pd"
 simp only[Zuu]
 rw[<- ZvD,<- ZvD,Zum]
 rfl
theorem Zqo {g:List Int}{ks:List (List Key)}{xs:List PV} (h:∃N ys ps,ZcC ks xs N ys ps/\ys 0=g/\N<=ks.length/\N<=100000):ZnX.fn [Jh g,.box none (.dt ks) xs]=.ok (.lst ((Zjj ks xs (ks.length+1) g).reverse.map Zcw)):=Pm.fn_eq ZnX (g,ks,xs) h (fun(a:List Int×List (List Key)×List PV) e=>by
 have e':a=(g,ks,xs):=by
  simp only[ZnX,List.cons.injEq,PV.box.injEq,Jh,PV.tup.injEq,and_true] at e
  obtain⟨e1,e2⟩:=e
  refine Prod.ext (Jn e1) (Prod.ext ?_ e2.2.2)
  have:=e2.2.1
  injection this
 rw[e'])
theorem ZdT:ZnX.calm:=fun a q h=>by (simp only[ZnX] at h;cases h)
theorem Ze4 (P b:List Int) (i:Nat):∀m,(wk P b i).2.1.length<=(wk P b (i+m)).2.1.length
 |0=>ZtE _
 |m+1=>by
  have h1:=Ze4 P b i m
  rw[show i+(m+1)=i+m+1 by omega,QK,Zus]
  omega
theorem ZaR {n:Nat}{s:Int}{P b o:List Int} (F:ZcB n s P b) (ho:o∈Uy P b):∃ys ps,ZcC ((Uy P b).map tI) (wk P b (wkN P b)).2.2 (goN P b o) ys ps/\ys 0=o/\ZmP P b (goN P b o) (((List.range (goN P b o)).map ps).reverse) o/\goN P b o+1<=(Uy P b).length/\goN P b o<=1000:=by
 obtain⟨g1,g2,g3,g4,g5⟩:=Zlc F (F.mem.mp ho)
 have hle:goN P b o<=wkN P b:=by
  apply Classical.byContradiction
  intro c
  exact g3 (wkN P b) (by omega) ho
 obtain⟨ys,ps,C,c0,pl⟩:=ZdD (P:=P) (b:=b) (goN P b o) (wkN P b) hle g4
 have h1:=Ze5 P b (goN P b o) g5
 have h2:=Ze4 P b (goN P b o) (wkN P b-goN P b o)
 rw[show goN P b o+(wkN P b-goN P b o)=wkN P b by omega] at h2
 refine⟨ys,ps,C,c0,pl, ?_,g1⟩
 unfold Uy
 omega
structure Wob (b o l:List Int):Prop where
 b1:Vf b=true
 b2:Vf o=true
 bar:ZjU b.length l
 ln:b.length=o.length
 sm:b.sum=o.sum
 few:cbN b.length b.sum<=1000
 ll:l.length<=1000
noncomputable def ZiD (b o l:List Int):List Int:=(Zjj ((Uy (Z5 b.length l) b).map tI) (wk (Z5 b.length l) b (wkN (Z5 b.length l) b)).2.2 (((Uy (Z5 b.length l) b).map tI).length+1) o).reverse
noncomputable def Zg8 (b o l:List Int):PV:=if o∈Uy (Z5 b.length l) b then .tup [.str "way",.lst ((ZiD b o l).map Zcw)] else .tup [.str "barred",llQ (ZgE (Z5 b.length l) b)]
noncomputable def ZnE:Pm:=⟨List Int×List Int×List Int,fun a=>[.lst (a.1.map PV.int),.lst (a.2.1.map PV.int),.lst (a.2.2.map PV.int)],fun a=>Wob a.1 a.2.1 a.2.2,fun a=>.ok (Zg8 a.1 a.2.1 a.2.2)⟩
theorem Wob.fw {b o l:List Int} (h:Wob b o l):ZcB b.length b.sum (Z5 b.length l) b/\ZjT b/\ZjT o:=by
 have B:=Ve.mp h.b1
 have O:=Ve.mp h.b2
 have l1:=B.lo
 have l2:=B.hi
 exact⟨⟨by omega,fun p hp=>(Q3.mp hp).1,⟨rfl,B.nn,rfl⟩,h.few⟩,B,O⟩
theorem Zsb (T:Txt K mg) {f:Addr}{fd:FuncData} (F:Fun K "way_or_bar" "way_or_bar" ZnK f fd):JB P w K mg base (CX1 P w) 6 f fd ["board", "other", "barred"] (spF K 3 .F (W1 K) ZnE.fn):=by
 have Zre:=Zfv (P:=P) (w:=w) (base:=base) T.Zsh ZrT (fun F=>ZrP T F)
 have ZrW:=Zfv (P:=P) (w:=w) (base:=base) T.ZrS ZrI (fun F=>ZrC T F)
 have Zsp:=Zfv (P:=P) (w:=w) (base:=base) T.Zsi ZrU (fun F=>ZrQ T F)
 have Zrd:=Zfv (P:=P) (w:=w) (base:=base) T.Zra ZqO (fun F=>ZqF T F)
 have ZsX:=Vz (P:=P) (w:=w) (base:=base) T.ZsL Zs3 (fun F=>Zsr T F)
 have ZrL:=Vz (P:=P) (w:=w) (base:=base) T.ZrF Zr5 (fun F=>Zr4 T F)
 have Ztx:=Vz (P:=P) (w:=w) (base:=base) T.Ztu Ztl (fun F=>Zte T F)
 refine F.okX ZqY rfl rfl (fun cdv A outer s H E hr=>?_)
 have hu:=hr.units
 refine⟨_,_,⟨[],[],[],.F⟩,rfl,(Zg (J3 (Vh Zre (hr.mono (by decide)) rfl Qm (Za (pv 0) Zf)))
   (Zg (J3 (Vh Zre (hr.mono (by decide)) rfl Qm (Za (pv 1) Zf)))
   (Zg (J3 (Vh ZrW (hr.mono (by decide)) rfl Qm (Za (pv 0) (Za (pv 2) Zf))))
   (Zg (J3 (Vh Zsp (hr.mono (by decide)) rfl Qm (Za (pv 0) (Za (pv 1) Zf))))
   (Zg (J3 (Vh Zrd (hr.mono (by decide)) rfl Qm (Za (pv 0) Zf)))
   (Zg (Z2 (i:=3) ZqY.nd rfl (by first|exact Or.inl rfl|exact Or.inr rfl) (Zr ZsX (hr.mono (by decide)) rfl (Za (pv 0) (Za (pv 2) Zf))))
   (Zg (Jm (ZeS (Zk8 (hu1 hu) (ZG (Jr (K:=K)) rfl T.z_tuple JL (Za (pv 1) Zf)) (pv 3))) (Zl (Z3 (VG (Za JQ (Za (Zr Ztx (hr.mono (by decide)) rfl (Za (ZG (Jr (K:=K)) rfl T.z_tuple JL (Za (pv 1) Zf)) (Za (pv 3) Zf))) Zf))))) ZA)
   (Zl (Z3 (VG (Za JQ (Za (Zr ZrL (hr.mono (by decide)) rfl (Za (ZG (Zeu rfl) rfl T.z_list Js (Za (pv 3) Zf)) Zf)) Zf)))))))))))),
   (Zm (Γm:=[.S,.S,.S,.U]) (Q6 (DE.toA (Zlm (Ze Zq) (Zb (Zc (i:=0) (m:=.S) rfl (by decide)) Zd))))
   (Zm (Γm:=[.S,.S,.S,.U]) (Q6 (DE.toA (Zlm (Ze Zq) (Zb (Zc (i:=1) (m:=.S) rfl (by decide)) Zd))))
   (Zm (Γm:=[.S,.S,.S,.U]) (Q6 (DE.toA (Zlm (Ze (Ze Zq)) (Zb (Zc (i:=0) (m:=.S) rfl (by decide)) (Zb (Zc (i:=2) (m:=.S) rfl (by decide)) Zd)))))
   (Zm (Γm:=[.S,.S,.S,.U]) (Q6 (DE.toA (Zlm (Ze (Ze Zq)) (Zb (Zc (i:=0) (m:=.S) rfl (by decide)) (Zb (Zc (i:=1) (m:=.S) rfl (by decide)) Zd)))))
   (Zm (Γm:=[.S,.S,.S,.U]) (Q6 (DE.toA (Zlm (Ze Zq) (Zb (Zc (i:=0) (m:=.S) rfl (by decide)) Zd))))
   (Zm (Γm:=[.S,.S,.S,.O]) (ZM (i:=3) (Zmn (Ze (Ze Zq)) (Pm.calm_fn Zbf) (Zb (Zc (i:=0) (m:=.S) rfl (by decide)) (Zb (Zc (i:=2) (m:=.S) rfl (by decide)) Zd))) (by decide))
   (Zm (Γm:=[.S,.S,.S,.O]) (Jo (Zb6 (DE.toA (Zlw (Vm (Zb (Zc (i:=1) (m:=.S) rfl (by decide)) Zd)) (Zc (i:=3) (m:=.O) rfl (by decide)))))
   (ZU (Q7 (ZE (DE.PF JS) (ZE (Zmn (Ze (Ze Zq)) (Pm.calm_fn ZdT) (Zb (Vm (Zb (Zc (i:=1) (m:=.S) rfl (by decide)) Zd)) (Zb (Zc (i:=3) (m:=.O) rfl (by decide)) Zd))) Jq))))
   ZB)
   (ZU (Q7 (ZE (DE.PF JS) (ZE (Zmn (Ze Zq) (Pm.calm_fn UE) (Zb (DE.toA (ZhH (Zb (Zc (i:=3) (m:=.O) rfl (by decide)) Zd))) Zd)) Jq))))))))))), ?_⟩
 refine Pm.ref ZnE (g:=fun xs=>_) ?_
 rintro⟨b,o,l⟩ (h:Wob b o l)
 simp only[ZnE]
 obtain⟨F,B,O⟩:=h.fw
 have l1:=B.lo
 have l2:=B.hi
 have e1:=h.ln
 have e2:=h.ll
 walk_at "pd"
 rw[Zoq (by omega),h.b1]
 walk_at "pd"
 rw[Zoq (by omega),h.b2]
 walk_at "pd"
 rw[Zou ⟨by omega,e2⟩,Zg1 h.bar]
 walk_at "pd"
 rw[ZoA ⟨by omega,by omega⟩,show ZjV b o=none from if_pos ⟨h.ln,h.sm⟩]
 walk_at "pd"
 rw[ZnH ⟨⟨by omega,by omega⟩,B.sm⟩,show Zlk b=none from if_neg (by have:=h.few;omega)]
 walk_at "pd"
 rw[Zpa ⟨l2,_,F⟩]
 walk_at "pd"
 have W:=UC (Z5 b.length l) b (wkN (Z5 b.length l) b)
 have hle:=F.le (wkN (Z5 b.length l) b)
 rw[show Qn [PV.lst (o.map PV.int)]=.ok (Jh o) from rfl]
 walk_at "pd"
 rw[Zfp]
 walk_at "pd"
 unfold Zg8
 by_cases c:o∈Uy (Z5 b.length l) b
 ·obtain⟨z,hz⟩:=ZaN (ks:=(Uy (Z5 b.length l) b).map tI) (xs:=(wk (Z5 b.length l) b (wkN (Z5 b.length l) b)).2.2) (by rw[ZtG];exact W.ln.symm) (VW.mpr c)
  rw[hz,if_pos c,show (some z).isSome=true from rfl,if_pos rfl]
  obtain⟨ys,ps,C,c0,P,hl,hn⟩:=ZaR F c
  rw[Zqo ⟨_,ys,ps,C,c0,by rw[ZtG];omega,by omega⟩]
  walk_at "pd"
  rfl
 ·rw[ZaM (fun z=>c (VW.mp z)),if_neg c,if_neg (by decide)]
  walk_at "pd"
  rw[show List.map tI (Uy (Z5 b.length l) b)=(Uy (Z5 b.length l) b).map (fun b=>b.map Sum.inl) from rfl,Zfh (bs:=Uy (Z5 b.length l) b) W.ln (by unfold Uy;omega)]
  walk_at "pd"
  rw[Zoo ⟨fun t ht=>by
   have B:=(F.mem.mp ht).bs F.hP F.hb
   exact⟨fun z=>by have:=B.1;rw[z] at this;simp at this;omega,by have:=B.1;omega⟩,by unfold Uy;omega⟩]
  walk_at "pd"
  rfl
theorem Zon {b o l:List Int} (h:Wob b o l):ZnE.fn [.lst (b.map PV.int),.lst (o.map PV.int),.lst (l.map PV.int)]=.ok (Zg8 b o l):=Pm.fn_eq ZnE (b,o,l) h fun(a:List Int×List Int×List Int) e=>by (simp only[ZnE,List.cons.injEq,PV.lst.injEq,PV.int.injEq,PV.str.injEq,PV.bl.injEq,PV.tup.injEq,ZI,and_true] at e ⊢;first|(simp only[e];done)|(subst e;rfl)|(rw[e]))
noncomputable def ZnR:Pm:=⟨List Int×Int,fun a=>[.lst (a.1.map PV.int),.int a.2],fun a=>0<=a.2/\a.2<a.1.length/\a.1.length<=1000,fun a=>.ok (Zcd (Zg9 a))⟩
theorem Zr0 (T:Txt K mg) {f:Addr}{fd:FuncData} (F:Fun K "_law_sown" "_law_sown" Zoc f fd):JB P w K mg base CX0 1 f fd ["board", "pit"] (spF K 2 .F W0 ZnR.fn):=by
 refine F.okP Zox rfl rfl (fun cdv A outer s H E hr=>?_)
 have hu:=hr.units
 refine⟨_,_,⟨[],[],[],.F⟩,rfl,(Zg (Z2 (i:=2) Zox.nd rfl (by first|exact Or.inl rfl|exact Or.inr rfl) (Zo (Zw (K:=K)) rfl T.z_len ZY (Za (pv 0) Zf)))
   (Zg (Z2 (i:=3) Zox.nd rfl (by first|exact Or.inl rfl|exact Or.inr rfl) (ZC (Zp (K:=K)) (pv 0) (pv 1) (fun _ _=>rfl)))
   (Zg (Z2 (i:=4) Zox.nd rfl (by first|exact Or.inl rfl|exact Or.inr rfl) (ZG (Jl (K:=K)) rfl T.z_list Js (Za (pv 0) Zf)))
   (Zg (U8 Zi (Qj (pv 4) (pv 1) JN))
   (Zg (J5 PassesOwn.never rfl (Jf rfl T.z_range (Za (pv 2) Zf)) (Jg (i:=5) Zox.nd rfl (by first|exact Or.inl rfl|exact Or.inr rfl)) (Zg (Z2 (i:=6) Zox.nd rfl (by first|exact Or.inl rfl|exact Or.inr rfl) (Z6 ZS (Z6 J6 (Z6 J6 (pv 1) Zi) (pv 5)) (pv 2)))
   (Zl (U8 (Z6 J6 (Z6 J6 (ZC (Zp (K:=K)) (pv 4) (pv 6) (fun _ _=>rfl)) (Z6 Jz (pv 3) (pv 2))) (ZG Zgt rfl T.z_int Zgv (Za (JV Zay (pv 5) (Z6 ZS (pv 3) (pv 2)) (Z9 _)) Zf))) (Qj (pv 4) (pv 6) JN)))))
   (Zl (Z3 (VG (Za (pv 4) (Za (Z6 ZS (Z6 J6 (pv 1) (pv 3)) (pv 2)) Zf)))))))))),
   (Zm (Γm:=[.S,.S,.P,.U,.U,.U,.U]) (ZQ (i:=2) (ZW (Zb (Zc (i:=0) (m:=.S) rfl (by decide)) Zd)) (by decide))
   (Zm (Γm:=[.S,.S,.P,.P,.U,.U,.U]) (ZQ (i:=3) (DE.grd (Zx (te:=tC .non) (Zc (i:=0) (m:=.S) rfl (by decide)) (Zc (i:=1) (m:=.S) rfl (by decide)))) (by decide))
   (Zm (Γm:=[.S,.S,.P,.P,.O,.U,.U]) (ZM (i:=4) (JT (Zb (Zc (i:=0) (m:=.S) rfl (by decide)) Zd)) (by decide))
   (Zm (Γm:=[.S,.S,.P,.P,.O,.U,.U]) (Vd (i:=4) rfl Zj (Zc (i:=1) (m:=.S) rfl (by decide)))
   (Zm (Γm:=[.S,.S,.P,.P,.O,.U,.U]) (J7 (Γl:=[.S,.S,.P,.P,.O,.U,.U]) (J4 (Zb (DE.toA (Zk (i:=2) rfl)) Zd)) rfl (Zep (i:=5) (by decide))
   (DS.out (Y:=⟨[.S,.S,.P,.P,.O,.P,.P],[.S,.S,.P,.P,.O,.U,.U],[.S,.S,.P,.P,.O,.U,.U],.F⟩) (Y':=⟨[.S,.S,.P,.P,.O,.U,.U],[.S,.S,.P,.P,.O,.U,.U],[.S,.S,.P,.P,.O,.U,.U],.F⟩) (Zm (Γm:=[.S,.S,.P,.P,.O,.P,.P]) (ZQ (i:=6) (ZV (DE.toA (J8 (DE.toA (J8 (Zc (i:=1) (m:=.S) rfl (by decide)) (DE.toA Zj))) (DE.toA (Zk (i:=5) rfl)))) (DE.toA (Zk (i:=2) rfl))) (by decide))
   (Vd (i:=4) rfl (J8 (DE.toA (J8 (Zx (te:=tC .non) (Zc (i:=4) (m:=.O) rfl (by decide)) (DE.toA (Zk (i:=6) rfl))) (DE.toA (VL (DE.toA (Zk (i:=3) rfl)) (DE.toA (Zk (i:=2) rfl)))))) (DE.toA (ZhE (Zb (DE.toA (Zb9 (DE.toA (Zk (i:=5) rfl)) (DE.toA (ZV (DE.toA (Zk (i:=3) rfl)) (DE.toA (Zk (i:=2) rfl)))))) Zd)))) (DE.toA (Zk (i:=6) rfl)))) rfl rfl rfl rfl))
   (ZU (Q7 (ZE (JI (i:=4) rfl) (ZE (DE.PF (ZV (DE.toA (J8 (Zc (i:=1) (m:=.S) rfl (by decide)) (DE.toA (Zk (i:=3) rfl)))) (DE.toA (Zk (i:=2) rfl)))) Jq))))))))), ?_⟩
 refine Pm.ref ZnR (g:=fun xs=>_) ?_
 rintro⟨bs,p⟩ ⟨h0,h1,h2⟩
 simp only at h0 h1 h2
 simp only[ZnR]
 walk_at "pd"
 rw[Zjv h0 h1]
 generalize hw:UV _ _ _=W
 obtain⟨ρ',rfl,v,u,rfl⟩:=ZP hw (fun i ρ=>∃v u,ρ=[.lst (bs.map PV.int),.int p,.int bs.length,.int (bs.getD p.toNat 0),.lst ((tab bs.length (lsF bs p i)).map PV.int),v,u]) ⟨_,_,rfl⟩ (by
  rintro i x ρ hx ⟨v,u,rfl⟩
  obtain⟨hi,rfl⟩:=J9 hx
  rw[ZuG]
  have hn:(0:Int)<bs.length:=by omega
  have hlen:(tab bs.length (lsF bs p i)).length=bs.length:=Jj _ _
  have y0:=Zup (p+1+i) (show (bs.length:Int)≠0 by omega)
  have y1:=Zud (p+1+i) hn
  have hst:=Zjw (bs:=bs) (p:=p) h0 h1 (i:=i) (by omega)
  walk_at "pd"
  rw[UZ (by omega)]
  by_cases c:(i:Int)<bs.getD p.toNat 0%bs.length
  ·rw[if_pos c] at hst
   rw[decide_eq_true c,show ZkE [PV.bl true]=.ok (.int 1) from rfl]
   walk_at "pd"
   rw[hst]
   exact JG ⟨_,_,rfl⟩
  ·rw[if_neg c] at hst
   rw[decide_eq_false c,show ZkE [PV.bl false]=.ok (.int 0) from rfl]
   walk_at "pd"
   rw[hst]
   exact JG ⟨_,_,rfl⟩)
 walk_at "pd"
 rw[Jp,show (bs.length:Int).toNat=bs.length by omega,ZkM h0 h1,ZkL]
 rfl
theorem ZoF {bs:List Int}{p:Int} (h:0<=p/\p<bs.length/\bs.length<=1000):ZnR.fn [.lst (bs.map PV.int),.int p]=.ok (Zcd (Zg9 (bs,p))):=Pm.fn_eq ZnR (bs,p) h fun(a:List Int×Int) e=>by
 simp only[ZnR,List.cons.injEq,PV.lst.injEq,PV.int.injEq,ZI,and_true] at e ⊢
 rw[show a=(bs,p) from Prod.ext e.1 e.2]
theorem ZeI (Q x:List Int):(Vv Q x).length<=Q.length:=by
 unfold Vv
 rw[ZtG]
 exact Zvn _ _
noncomputable def Zkc (y:Int×List Int):PV:=.tup [.int y.1,Vp y.2]
noncomputable def Zn9:Pm:=⟨List Int×List Int,fun a=>[.lst (a.1.map PV.int),.lst (a.2.map PV.int)],fun a=>a.1.length<=1000,fun a=>.ok (.lst ((Vv (Z5 a.1.length a.2) a.1).map Zkc))⟩
theorem Zqw (T:Txt K mg) {f:Addr}{fd:FuncData} (F:Fun K "_law_behind" "_law_behind" ZnD f fd):JB P w K mg base CX0 2 f fd ["board", "bars"] (spF K 2 .F W0 Zn9.fn):=by
 have ZqX:=Vz (P:=P) (w:=w) (base:=base) T.ZrG Zr1 (fun F=>Zr0 T F)
 refine F.okP Zpl rfl rfl (fun cdv A outer s H E hr=>?_)
 have hu:=hr.units
 refine⟨_,_,⟨[],[],[],.F⟩,rfl,(Zg (Z2 (i:=2) Zpl.nd rfl (by first|exact Or.inl rfl|exact Or.inr rfl) (Va Zf))
   (Zg (J5 PassesOwn.never rfl (Jf rfl T.z_range (Za (Zo (Zw (K:=K)) rfl T.z_len ZY (Za (pv 0) Zf)) Zf)) (Jg (i:=3) Zpl.nd rfl (by first|exact Or.inl rfl|exact Or.inr rfl)) (Zl (Jm (PW.pt (ZeQ (Zy Zfu (ZC (Zp (K:=K)) (pv 0) (pv 3) (fun _ _=>rfl)) Zi (Z9 _)) (ZbZ (Zy (Qu (K:=K) hu) (pv 3) (pv 1) rfl)))) (Zl (J3 (ZdS PySem.F.plainAttrs_list PySem.F.slot_list_append PySem.F.type_list_append Vb (pv 2) (Za (VG (Za (pv 3) (Za (ZC (Zp (K:=K)) (Zr ZqX (hr.mono (by decide)) rfl (Za (pv 0) (Za (pv 3) Zf))) Zi (fun _ _=>rfl)) Zf))) Zf)))) ZA)))
   (Zl (Z3 (pv 2))))),
   (Zm (Γm:=[.S,.S,.O,.U]) (ZM (i:=2) (JW Jq) (by decide))
   (Zm (Γm:=[.S,.S,.O,.U]) (J7 (Γl:=[.S,.S,.O,.U]) (J4 (Zb (DE.toA (ZW (Zb (Zc (i:=0) (m:=.S) rfl (by decide)) Zd))) Zd)) rfl (Zep (i:=3) (by decide))
   (DS.out (Y:=⟨[.S,.S,.O,.P],[.S,.S,.O,.U],[.S,.S,.O,.U],.F⟩) (Y':=⟨[.S,.S,.O,.U],[.S,.S,.O,.U],[.S,.S,.O,.U],.F⟩) (Jo (ZfQ (Zv (DE.toA (Zgd (Zx (te:=tC .non) (Zc (i:=0) (m:=.S) rfl (by decide)) (DE.toA (Zk (i:=3) rfl))) (DE.toA Zj)))) (Zv (DE.toA (ZbA (g:=(!·)) (DE.toA (Zk (i:=3) rfl)) (Zc (i:=1) (m:=.S) rfl (by decide))))))
   (ZaD (i:=2) rfl rfl (Q7 (ZE (DE.PF (Zk (i:=3) rfl)) (ZE (Zi1 (te:=tC .non) (Zer (Ze (Ze Zq)) (Zb (Zc (i:=0) (m:=.S) rfl (by decide)) (Zb (DE.toA (Zk (i:=3) rfl)) Zd))) (DE.toA Zj)) Jq))))
   ZB) rfl rfl rfl rfl))
   (ZU (JI (i:=2) rfl)))), ?_⟩
 refine Pm.ref Zn9 (g:=fun xs=>_) ?_
 rintro⟨b,l⟩ (hb:b.length<=1000)
 simp only[Zn9]
 walk_at "pd"
 generalize hw:UV _ _ _=W
 obtain⟨ρ',rfl,v,rfl⟩:=ZP hw (fun i ρ=>∃v,ρ=[.lst (b.map PV.int),.lst (l.map PV.int),.lst ((Vv (Z5 i l) b).map Zkc),v]) ⟨_,rfl⟩ (by
  rintro i x ρ hx ⟨v,rfl⟩
  obtain⟨hi,rfl⟩:=J9 hx
  rw[ZuG]
  have hlen:(Vv (Z5 i l) b).length<=i:=ZtV (ZeI _ _) (Zb3 _ _)
  have hY:(i:Int) ∉ l->0<b.getD i 0->Vv (Z5 (i+1) l) b=Vv (Z5 i l) b++[((i:Int),UP b i)]:=fun e e2=>by
   unfold Vv Z5
   rw[Zvy,Zve,Zuy,Zve,Zuy]
   congr 1
   rw[show List.filter (fun(i:Nat)=>decide ((i:Int) ∉ l)) [i]=[i] from ZuW.mpr fun z hz=>by rw[ZtQ.mp hz];exact decide_eq_true e]
   rw[show List.filter (fun(p:Int)=>decide (0<b.getD p.toNat 0)) ([i].map fun(i:Nat)=>(i:Int))=[(i:Int)] from ZuW.mpr fun z hz=>by rw[ZtQ.mp hz];exact decide_eq_true e2]
   rfl
  have hN:¬((i:Int) ∉ l/\0<b.getD i 0)->Vv (Z5 (i+1) l) b=Vv (Z5 i l) b:=fun c=>by
   unfold Vv Z5
   rw[Zvy,Zve,Zuy,Zve,Zuy]
   rw[show List.filter (fun(p:Int)=>decide (0<b.getD p.toNat 0)) ((List.filter (fun(i:Nat)=>decide ((i:Int) ∉ l)) [i]).map fun(i:Nat)=>(i:Int))=[] from List.filter_eq_nil_iff.mpr fun z hz=>by
    obtain⟨k,hk,rfl⟩:=ZtY.mp hz
    obtain⟨k1,k2⟩:=Zuw.mp hk
    rw[ZtQ.mp k1] at k2 ⊢
    intro z
    exact c ⟨of_decide_eq_true k2,of_decide_eq_true z⟩]
   rw[ZuY,Zu9]
  walk_at "pd"
  rw[Qs,ZtZ]
  by_cases e2:0<b.getD i 0
  ·rw[decide_eq_true e2]
   walk_at "pd"
   by_cases e:(i:Int)∈l
   ·rw[decide_eq_true e,hN (fun z=>z.1 e)]
    walk_at "pd"
    exact JG ⟨_,rfl⟩
   ·rw[decide_eq_false e,hY e e2]
    walk_at "pd"
    rw[ZoF ⟨by omega,by omega,by omega⟩]
    simp only[Zcd,Zg9]
    walk_at "pd"
    rw[Uc (by rw[ZtG];omega)]
    walk_at "pd"
    exact JG ⟨_,by rw[Zuy];rfl⟩
  ·rw[decide_eq_false e2,hN (fun z=>e2 z.2)]
   walk_at "pd"
   exact JG ⟨_,rfl⟩)
 walk_at "pd"
 rw[Jp,ZtZ]
theorem Zor {b l:List Int} (h:b.length<=1000):Zn9.fn [.lst (b.map PV.int),.lst (l.map PV.int)]=.ok (.lst ((Vv (Z5 b.length l) b).map Zkc)):=Pm.fn_eq Zn9 (b,l) h fun(a:List Int×List Int) e=>by (simp only[Zn9,List.cons.injEq,PV.lst.injEq,PV.int.injEq,PV.str.injEq,PV.bl.injEq,PV.tup.injEq,ZI,and_true] at e ⊢;first|(simp only[e];done)|(subst e;rfl)|(rw[e]))
structure ZdJ (L:List (List Int)) (b o l:List Int):Prop where
 b1:b∈L
 b2:o ∉ L
 n1:1<=b.length
 n2:b.length<=1000
 bs:∀x∈L,Bs b.length b.sum x
 cl:∀x∈L,∀y∈Vv (Z5 x.length l) x,y.2∈L
 up:L.Pairwise fun a b=>HT.ZL a b=true
 sz:L.length<=1000
noncomputable def Zog:Pm:=⟨List (List Int)×List Int×List Int×List Int,fun a=>[.lst (a.1.map Vp),.lst (a.2.1.map PV.int),.lst (a.2.2.1.map PV.int),.lst (a.2.2.2.map PV.int)],fun a=>ZdJ a.1 a.2.1 a.2.2.1 a.2.2.2,fun _=>.ok (.bl true)⟩
theorem Zsv (T:Txt K mg) {f:Addr}{fd:FuncData} (F:Fun K "_law_shut" "_law_shut" Zod f fd):JB P w K mg base CX0 3 f fd ["boards", "board", "other", "bars"] (spF K 4 .P W0 Zog.fn):=by
 have ZpM:=Vz (P:=P) (w:=w) (base:=base) T.Zrb Zqx (fun F=>Zqw T F)
 refine F.okP Zoy rfl rfl (fun cdv A outer s H E hr=>?_)
 have hu:=hr.units
 refine⟨_,_,⟨[],[],[],.P⟩,rfl,(Zg (Jm (PW.pt (Vs (JP (JO (Zo (Ji (K:=K) (n := "list") rfl) rfl T.z_isinstance ZF (Za (pv 0) (Za (JF (v:=.ty "list") rfl T.z_list Js rfl) Zf))))) (Vs (Zy (Qu (K:=K) hu) (pv 1) (pv 0) rfl) (Vy (Zy (Zin (K:=K) hu) (pv 2) (pv 0) rfl))))) (Zl (Z3 UD)) ZA)
   (Zg (Z2 (i:=4) Zoy.nd rfl (by first|exact Or.inl rfl|exact Or.inr rfl) Zhd)
   (Zg (J5 PassesOwn.never rfl (Jk (K:=K) (pv 0)) (Jg (i:=5) Zoy.nd rfl (by first|exact Or.inl rfl|exact Or.inr rfl)) (Zg (Jm (PW.pt (Vs (JP (JO (Zo (Ji (K:=K) (n := "list") rfl) rfl T.z_isinstance ZF (Za (pv 5) (Za (JF (v:=.ty "list") rfl T.z_list Js rfl) Zf))))) (Vs (Zy (VH (K:=K) hu) (Zo (Zw (K:=K)) rfl T.z_len ZY (Za (pv 5) Zf)) (Zo (Zw (K:=K)) rfl T.z_len ZY (Za (pv 1) Zf)) (Z9 _)) (Vs (Zy (VH (K:=K) hu) (Zo (JK (K:=K) rfl) rfl T.z_sum QD (Za (pv 5) Zf)) (Zo (JK (K:=K) rfl) rfl T.z_sum QD (Za (pv 1) Zf)) (Z9 _)) (Vy (Zy Zay (Zo (Zet (K:=K) rfl) rfl T.z_min Zl3 (Za (pv 5) Zf)) Zi (Z9 _))))))) (Zl (Z3 UD)) ZA)
   (Zl (ZeT (hu1 hu) (pv 4) (ZG (Jr (K:=K)) rfl T.z_tuple JL (Za (pv 5) Zf)) UD rfl))))
   (Zg (J5 PassesOwn.never rfl (Jk (K:=K) (pv 0)) (Jg (i:=5) Zoy.nd rfl (by first|exact Or.inl rfl|exact Or.inr rfl)) (Zl (J5 PassesOwn.never rfl (Jk (K:=K) (Zr ZpM (hr.mono (by decide)) rfl (Za (pv 5) (Za (pv 3) Zf)))) (Jg (i:=6) Zoy.nd rfl (by first|exact Or.inl rfl|exact Or.inr rfl)) (Zl (Jm (ZeS (Zbh (hu1 hu) (ZG (Jr (K:=K)) rfl T.z_tuple JL (Za (ZC (Zp (K:=K)) (pv 6) Zi (fun _ _=>rfl)) Zf)) (pv 4))) (Zl (Z3 UD)) ZA)))))
   (Zg (J5 PassesOwn.never rfl (Jf rfl T.z_range (Za (Z6 Zft (Zo (Zw (K:=K)) rfl T.z_len ZY (Za (pv 0) Zf)) Zi) Zf)) (Jg (i:=7) Zoy.nd rfl (by first|exact Or.inl rfl|exact Or.inr rfl)) (Zl (Jm (JP (Zy (Zjl (K:=K) hu) (ZC (Zp (K:=K)) (pv 0) (pv 7) (fun _ _=>rfl)) (ZC (Zp (K:=K)) (pv 0) (Z6 J6 (pv 7) Zi) (fun _ _=>rfl)) (Z9 _))) (Zl (Z3 UD)) ZA)))
   (Zl (Z3 UD))))))),
   (Zm (Γm:=[.S,.S,.S,.S,.U,.U,.U,.U]) (Jo (Vu (JR (Zb6 (DE.toA (V4 (Zc (i:=0) (m:=.S) rfl (by decide)))))) (Vu (Zv (DE.toA (ZbA (g:=(!·)) (Zc (i:=1) (m:=.S) rfl (by decide)) (Zc (i:=0) (m:=.S) rfl (by decide))))) (Zv (DE.toA (ZbA (g:=id) (Zc (i:=2) (m:=.S) rfl (by decide)) (Zc (i:=0) (m:=.S) rfl (by decide)))))))
   (ZH UG)
   ZB)
   (Zm (Γm:=[.S,.S,.S,.S,.O,.U,.U,.U]) (ZM (i:=4) ZhJ (by decide))
   (Zm (Γm:=[.S,.S,.S,.S,.O,.U,.U,.U]) (J7 (Γl:=[.S,.S,.S,.S,.O,.U,.U,.U]) (Jx (Vl (i:=0) rfl)) rfl (Zmp (i:=5) (by decide))
   (DS.out (Y:=⟨[.S,.S,.S,.S,.O,.S,.U,.U],[.S,.S,.S,.S,.O,.U,.U,.U],[.S,.S,.S,.S,.O,.U,.U,.U],.P⟩) (Y':=⟨[.S,.S,.S,.S,.O,.U,.U,.U],[.S,.S,.S,.S,.O,.U,.U,.U],[.S,.S,.S,.S,.O,.U,.U,.U],.P⟩) (Zm (Γm:=[.S,.S,.S,.S,.O,.S,.U,.U]) (Jo (Vu (JR (Zb6 (DE.toA (V4 (Zc (i:=5) (m:=.S) rfl (by decide)))))) (Vu (Zv (DE.toA (ZX (g:=(!·)) (DE.toA (ZW (Zb (Zc (i:=5) (m:=.S) rfl (by decide)) Zd))) (DE.toA (ZW (Zb (Zc (i:=1) (m:=.S) rfl (by decide)) Zd)))))) (Vu (Zv (DE.toA (ZX (g:=(!·)) (DE.toA (Q9 (Zb (Zc (i:=5) (m:=.S) rfl (by decide)) Zd))) (DE.toA (Q9 (Zb (Zc (i:=1) (m:=.S) rfl (by decide)) Zd)))))) (Zv (DE.toA (Zb9 (DE.toA (Zlu (Zb (Zc (i:=5) (m:=.S) rfl (by decide)) Zd))) (DE.toA Zj)))))))
   (ZH UG)
   ZB)
   (Zd7 (i:=4) rfl (DE.PF UG) (Vm (Zb (Zc (i:=5) (m:=.S) rfl (by decide)) Zd)))) rfl rfl rfl rfl))
   (Zm (Γm:=[.S,.S,.S,.S,.O,.U,.U,.U]) (J7 (Γl:=[.S,.S,.S,.S,.O,.U,.U,.U]) (Jx (Vl (i:=0) rfl)) rfl (Zmp (i:=5) (by decide))
   (DS.out (Y:=⟨[.S,.S,.S,.S,.O,.S,.U,.U],[.S,.S,.S,.S,.O,.U,.U,.U],[.S,.S,.S,.S,.O,.U,.U,.U],.P⟩) (Y':=⟨[.S,.S,.S,.S,.O,.U,.U,.U],[.S,.S,.S,.S,.O,.U,.U,.U],[.S,.S,.S,.S,.O,.U,.U,.U],.P⟩) (J7 (Γl:=[.S,.S,.S,.S,.O,.S,.U,.U]) (Jx (DE.FZ (Zer (Ze (Ze Zq)) (Zb (Zc (i:=5) (m:=.S) rfl (by decide)) (Zb (Zc (i:=3) (m:=.S) rfl (by decide)) Zd))))) rfl (Zmp (i:=6) (by decide))
   (DS.out (Y:=⟨[.S,.S,.S,.S,.O,.S,.S,.U],[.S,.S,.S,.S,.O,.S,.U,.U],[.S,.S,.S,.S,.O,.S,.U,.U],.P⟩) (Y':=⟨[.S,.S,.S,.S,.O,.S,.U,.U],[.S,.S,.S,.S,.O,.S,.U,.U],[.S,.S,.S,.S,.O,.S,.U,.U],.P⟩) (Jo (Zb6 (DE.toA (ZbB (Vm (Zb (Zx (te:=tC .non) (Zc (i:=6) (m:=.S) rfl (by decide)) (DE.toA Zj)) Zd)) (Zc (i:=4) (m:=.O) rfl (by decide)))))
   (ZH UG)
   ZB) rfl rfl rfl rfl)) rfl rfl rfl rfl))
   (Zm (Γm:=[.S,.S,.S,.S,.O,.U,.U,.U]) (J7 (Γl:=[.S,.S,.S,.S,.O,.U,.U,.U]) (J4 (Zb (DE.toA (ZfX (DE.toA (ZW (Zb (Zc (i:=0) (m:=.S) rfl (by decide)) Zd))) (DE.toA Zj))) Zd)) rfl (Zep (i:=7) (by decide))
   (DS.out (Y:=⟨[.S,.S,.S,.S,.O,.U,.U,.P],[.S,.S,.S,.S,.O,.U,.U,.U],[.S,.S,.S,.S,.O,.U,.U,.U],.P⟩) (Y':=⟨[.S,.S,.S,.S,.O,.U,.U,.U],[.S,.S,.S,.S,.O,.U,.U,.U],[.S,.S,.S,.S,.O,.U,.U,.U],.P⟩) (Jo (JR (Zv (DE.toA (Zlv (Zx (te:=tC .non) (Zc (i:=0) (m:=.S) rfl (by decide)) (DE.toA (Zk (i:=7) rfl))) (Zx (te:=tC .non) (Zc (i:=0) (m:=.S) rfl (by decide)) (DE.toA (J8 (DE.toA (Zk (i:=7) rfl)) (DE.toA Zj))))))))
   (ZH UG)
   ZB) rfl rfl rfl rfl))
   (ZH UG)))))), ?_⟩
 refine Pm.ref Zog (g:=fun xs=>_) ?_
 rintro⟨L,b,o,l⟩ (h:ZdJ L b o l)
 simp only[Zog]
 have h1:=h.n1
 have h2:=h.n2
 have hz:=h.sz
 walk_at "pd"
 have ins:∀(g:Bool->Bool) (x:List Int),Zhm g (.lst (x.map PV.int)) (.lst (L.map Vp))=.ok (.bl (g (decide (x∈L)))):=fun g x=>ZdX
 rw[ins,ins,decide_eq_true h.b1,decide_eq_false h.b2]
 walk_at "pd"
 generalize hw:UV _ _ _=W
 obtain⟨ρ',rfl,vs,v1,rfl,hv⟩:=ZP hw (fun i ρ=>∃(vs:List PV) (v1:PV),ρ=[.lst (L.map Vp),.lst (b.map PV.int),.lst (o.map PV.int),.lst (l.map PV.int),.box none (.dt ((L.take i).map tI)) vs,v1,.non,.non]/\vs.length=(L.take i).length) ⟨[],_,rfl,rfl⟩ (by
  rintro i x ρ hx ⟨vs,v1,rfl,hv⟩
  rw[ZtT] at hx
  obtain⟨c,hc,rfl⟩:=Zur.mp hx
  have hi:=(ZtC.mp hc).1
  obtain⟨c1,c2,c3⟩:=h.bs c (ZtA hc)
  rw[show Vp c=.lst (c.map PV.int) from rfl]
  have cne:c≠[]:=by intro e;rw[e] at c1;simp at c1;omega
  have hm:=c2 _ (Za0 cne)
  have hnot:c ∉ L.take i:=fun z=>by
   obtain⟨j,hj,e⟩:=List.mem_iff_getElem.mp z
   have hj2:j<i:=by rw[ZtR] at hj;omega
   rw[List.getElem_take] at e
   have:=Zuz.mp h.up j i (by omega) hi hj2
   rw[e,(ZtC.mp hc).2] at this
   rw[HL.V0] at this
   cases this
  have htl:(L.take i).length<=1000:=by rw[ZtR];omega
  walk_at "pd"
  rw[c1,decide_eq_true rfl,c3,decide_eq_true rfl]
  walk_at "pd"
  rw[Zfg cne]
  walk_at "pd"
  rw[decide_eq_false (by omega)]
  walk_at "pd"
  rw[show Qn [PV.lst (c.map PV.int)]=.ok (Jh c) from rfl]
  walk_at "pd"
  rw[Zfo rfl (by omega),Zbd (fun z=>hnot (VW.mp z)),Zbc (fun z=>hnot (VW.mp z))]
  walk_at "pd"
  exact JG ⟨vs++[.bl true],.lst (c.map PV.int),by rw[ZuS,hc,Zuy];rfl,by rw[ZuS,hc];simp[hv]⟩)
 walk_at "pd"
 rw[ZtG,ZuV] at hv ⊢
 generalize hw2:UV _ _ _=W2
 obtain⟨ρ',rfl,v1,v2,rfl⟩:=ZP hw2 (fun i ρ=>∃(v1 v2:PV),ρ=[.lst (L.map Vp),.lst (b.map PV.int),.lst (o.map PV.int),.lst (l.map PV.int),.box none (.dt (L.map tI)) vs,v1,v2,.non]) ⟨_,_,rfl⟩ (by
  rintro i x ρ hx ⟨v1,v2,rfl⟩
  rw[ZtT] at hx
  obtain⟨c,hc,rfl⟩:=Zur.mp hx
  have hcl:=h.cl c (ZtA hc)
  have c1:=(h.bs c (ZtA hc)).1
  rw[show Vp c=.lst (c.map PV.int) from rfl]
  walk_at "pd"
  rw[Zor (by omega)]
  walk_at "pd"
  generalize hw3:UV _ _ _=W3
  obtain⟨ρ',rfl,v3,rfl⟩:=ZP hw3 (fun i ρ=>∃(v2:PV),ρ=[.lst (L.map Vp),.lst (b.map PV.int),.lst (o.map PV.int),.lst (l.map PV.int),.box none (.dt (L.map tI)) vs,.lst (c.map PV.int),v2,.non]) ⟨_,rfl⟩ (by
   rintro j x ρ hx ⟨v2,rfl⟩
   rw[ZtT] at hx
   obtain⟨y,hy,rfl⟩:=Zur.mp hx
   obtain⟨z,hz⟩:=ZaN (ks:=L.map tI) (xs:=vs) (by rw[ZtG];exact hv.symm) (VW.mpr (hcl y (ZtA hy)))
   unfold Zkc
   rw[show Vp y.2=.lst (y.2.map PV.int) from rfl]
   walk_at "pd"
   rw[show Qn [PV.lst (y.2.map PV.int)]=.ok (Jh y.2) from rfl]
   walk_at "pd"
   rw[Zfp,hz]
   walk_at "pd"
   exact JG ⟨_,rfl⟩)
  exact JG ⟨_,_,rfl⟩)
 walk_at "pd"
 rw[Zaw,ZtG]
 have hl:1<=L.length:=Zvu.mpr (Zv2 h.b1)
 walk_at "pd"
 generalize hw3:UV _ _ _=W3
 obtain⟨ρ',rfl,v3,rfl⟩:=ZP hw3 (fun i ρ=>∃v3,ρ=[.lst (L.map Vp),.lst (b.map PV.int),.lst (o.map PV.int),.lst (l.map PV.int),.box none (.dt (L.map tI)) vs,v1,v2,v3]) ⟨_,rfl⟩ (by
  rintro i x ρ hx ⟨v3,rfl⟩
  obtain⟨hi,rfl⟩:=J9 hx
  walk_at "pd"
  rw[Zfi (q:=Vp) (d:=[]) (by omega) (by omega)]
  walk_at "pd"
  rw[Zfi (q:=Vp) (d:=[]) (by omega) (by omega)]
  have e1:(0+(i:Int)).toNat=i:=by omega
  have e2:(0+(i:Int)+1).toNat=i+1:=by omega
  have hlt:HT.ZL (L.getD i []) (L.getD (i+1) [])=true:=by
   rw[Zt8,Zt8,Zt9 (by omega),Zt9 (by omega)]
   exact Zuz.mp h.up i (i+1) (by omega) (by omega) (by omega)
  rw[e1,e2]
  walk_at "pd"
  rw[show ZjX (Vp (L.getD i [])) (Vp (L.getD (i+1) []))=.ok (.bl true) by simp only[Vp,ZjX,Zek,hlt]]
  walk_at "pd"
  exact⟨_,rfl⟩)
 walk_at "pd"
theorem Zpe {L:List (List Int)}{b o l:List Int} (h:ZdJ L b o l):Zog.fn [.lst (L.map Vp),.lst (b.map PV.int),.lst (o.map PV.int),.lst (l.map PV.int)]=.ok (.bl true):=Pm.fn_eq Zog (L,b,o,l) h (fun _ _=>rfl)
theorem Zds {α:Type}{q:α->PV} (h:∀x y,q x=q y->x=y):∀{a b:List α},a.map q=b.map q->a=b
 |[],[],_=>rfl
 |[],y::b,e=>by simp at e
 |x::a,[],e=>by simp at e
 |x::a,y::b,e=>by
  simp only[ZtP,List.cons.injEq] at e
  rw[h x y e.1,Zds h e.2]
structure ZjS (b pl l:List Int):Prop where
 ok:∀t,t<pl.length->((0<=pl.getD t 0/\pl.getD t 0<b.length)/\0<(Zck b (pl.take t)).getD (pl.getD t 0).toNat 0)/\pl.getD t 0 ∉ l
theorem Zhy (b:List Int):∀pl,(Zck b pl).length=b.length:=by
 intro pl
 induction pl generalizing b with
 |nil=>rfl
 |cons p pl ih=>rw[Zck,ih,Qf]
noncomputable def Zoi:Pm:=⟨List Int×List Int×List Int,fun a=>[.lst (a.1.map PV.int),.lst (a.2.1.map Zcw),.lst (a.2.2.map PV.int)],fun a=>ZjS a.1 a.2.1 a.2.2/\a.1.length<=1000,fun a=>.ok (.lst ((Zck a.1 a.2.1).map PV.int))⟩
theorem ZsJ (T:Txt K mg) {f:Addr}{fd:FuncData} (F:Fun K "_law_led" "_law_led" Zo2 f fd):JB P w K mg base CX0 2 f fd ["board", "plan", "bars"] (spF K 3 .F W0 Zoi.fn):=by
 have ZqX:=Vz (P:=P) (w:=w) (base:=base) T.ZrG Zr1 (fun F=>Zr0 T F)
 refine F.okP Zp9 rfl rfl (fun cdv A outer s H E hr=>?_)
 have hu:=hr.units
 refine⟨_,_,⟨[],[],[],.F⟩,rfl,(Zg (Z2 (i:=3) Zp9.nd rfl (by first|exact Or.inl rfl|exact Or.inr rfl) (ZG (Jl (K:=K)) rfl T.z_list Js (Za (pv 0) Zf)))
   (Zg (Jm (JP (JO (Zo (Ji (K:=K) (n := "list") rfl) rfl T.z_isinstance ZF (Za (pv 1) (Za (JF (v:=.ty "list") rfl T.z_list Js rfl) Zf))))) (Zl (Z3 Zbe)) ZA)
   (Zg (J5 PassesOwn.never rfl (Jk (K:=K) (pv 1)) (Jg (i:=4) Zp9.nd rfl (by first|exact Or.inl rfl|exact Or.inr rfl)) (Zg (Jm (PW.pt (Vs (JP (JO (Zo (Ji (K:=K) (n := "tuple") rfl) rfl T.z_isinstance ZF (Za (pv 4) (Za (JF (v:=.ty "tuple") rfl T.z_tuple ZdH rfl) Zf))))) (Vs (Zy (VH (K:=K) hu) (Zo (Zw (K:=K)) rfl T.z_len ZY (Za (pv 4) Zf)) Zi (Z9 _)) (Vs (Zy (VH (K:=K) hu) (ZC (Zp (K:=K)) (pv 4) Zi (fun _ _=>rfl)) JQ (Z9 _)) (Vy (JO (Zo (Ji (K:=K) (n := "bool") rfl) rfl T.z_isinstance ZF (Za (ZC (Zp (K:=K)) (pv 4) Zi (fun _ _=>rfl)) (Za (JF (v:=.ty "bool") rfl T.z_bool Zgw rfl) Zf))))))))) (Zl (Z3 Zbe)) ZA)
   (Zg (Jm (PW.pt (Vs (JP (JO (Zo (Ji (K:=K) (n := "int") rfl) rfl T.z_isinstance ZF (Za (ZC (Zp (K:=K)) (pv 4) Zi (fun _ _=>rfl)) (Za (JF (v:=.ty "int") rfl T.z_int Zgv rfl) Zf))))) (Vs (JP (Zha ZkK Zay Zi (ZC (Zp (K:=K)) (pv 4) Zi (fun _ _=>rfl)) (Zo (Zw (K:=K)) rfl T.z_len ZY (Za (pv 3) Zf)) (by rfl))) (Vs (Zy (Zin (K:=K) hu) (ZC (Zp (K:=K)) (pv 4) Zi (fun _ _=>rfl)) (pv 2) rfl) (Vy (Zy (J0 (K:=K) hu) (ZC (Zp (K:=K)) (pv 3) (ZC (Zp (K:=K)) (pv 4) Zi (fun _ _=>rfl)) (fun _ _=>rfl)) Zi (Z9 _))))))) (Zl (Z3 Zbe)) ZA)
   (Zl (Z2 (i:=3) Zp9.nd rfl (by first|exact Or.inl rfl|exact Or.inr rfl) (ZC (Zp (K:=K)) (Zr ZqX (hr.mono (by decide)) rfl (Za (pv 3) (Za (ZC (Zp (K:=K)) (pv 4) Zi (fun _ _=>rfl)) Zf))) Zi (fun _ _=>rfl)))))))
   (Zl (Z3 (pv 3)))))),
   (Zm (Γm:=[.S,.S,.S,.O,.U]) (ZM (i:=3) (JT (Zb (Zc (i:=0) (m:=.S) rfl (by decide)) Zd)) (by decide))
   (Zm (Γm:=[.S,.S,.S,.O,.U]) (Jo (JR (Zb6 (DE.toA (V4 (Zc (i:=1) (m:=.S) rfl (by decide))))))
   (ZU (DE.PF Zd8))
   ZB)
   (Zm (Γm:=[.S,.S,.S,.O,.U]) (J7 (Γl:=[.S,.S,.S,.O,.U]) (Jx (Vl (i:=1) rfl)) rfl (Zep (i:=4) (by decide))
   (DS.out (Y:=⟨[.S,.S,.S,.O,.P],[.S,.S,.S,.O,.U],[.S,.S,.S,.O,.U],.F⟩) (Y':=⟨[.S,.S,.S,.O,.U],[.S,.S,.S,.O,.U],[.S,.S,.S,.O,.U],.F⟩) (Zm (Γm:=[.S,.S,.S,.O,.P]) (Jo (Vu (JR (Zb6 (DE.toA (V4 (DE.toA (Zk (i:=4) rfl)))))) (Vu (Zv (DE.toA (ZX (g:=(!·)) (DE.toA (ZW (Zb (DE.toA (Zk (i:=4) rfl)) Zd))) (DE.toA Zj)))) (Vu (Zv (DE.toA (ZX (g:=(!·)) (Zx (te:=tC .non) (DE.toA (Zk (i:=4) rfl)) (DE.toA Zj)) (DE.toA JS)))) (Zb6 (DE.toA (V4 (Zx (te:=tC .non) (DE.toA (Zk (i:=4) rfl)) (DE.toA Zj))))))))
   (ZU (DE.PF Zd8))
   ZB)
   (Zm (Γm:=[.S,.S,.S,.O,.P]) (Jo (Vu (JR (Zb6 (DE.toA (V4 (Zx (te:=tC .non) (DE.toA (Zk (i:=4) rfl)) (DE.toA Zj)))))) (Vu (JR (Zv (DE.toA (ZhK (p:=fun i j=>decide (i<=j)) (q:=fun i j=>decide (i<j)) (DE.toA Zj) (Zx (te:=tC .non) (DE.toA (Zk (i:=4) rfl)) (DE.toA Zj)) (DE.toA (ZW (Zb (Zc (i:=3) (m:=.O) rfl (by decide)) Zd))))))) (Vu (Zv (DE.toA (ZbA (g:=id) (Zx (te:=tC .non) (DE.toA (Zk (i:=4) rfl)) (DE.toA Zj)) (Zc (i:=2) (m:=.S) rfl (by decide))))) (Zv (DE.toA (ZX (g:=id) (Zx (te:=tC .non) (Zc (i:=3) (m:=.O) rfl (by decide)) (Zx (te:=tC .non) (DE.toA (Zk (i:=4) rfl)) (DE.toA Zj))) (DE.toA Zj)))))))
   (ZU (DE.PF Zd8))
   ZB)
   (ZM (i:=3) (Zi1 (te:=tC .non) (Zer (Ze (Ze Zq)) (Zb (Zc (i:=3) (m:=.O) rfl (by decide)) (Zb (Zx (te:=tC .non) (DE.toA (Zk (i:=4) rfl)) (DE.toA Zj)) Zd))) (DE.toA Zj)) (by decide)))) rfl rfl rfl rfl))
   (ZU (JI (i:=3) rfl))))), ?_⟩
 refine Pm.ref Zoi (g:=fun xs=>_) ?_
 rintro⟨b,pl,l⟩ ⟨h,hb⟩
 simp only at h hb
 simp only[Zoi]
 walk_at "pd"
 generalize hw:UV _ _ _=W
 obtain⟨ρ',rfl,v,rfl⟩:=ZP hw (fun i ρ=>∃v,ρ=[.lst (b.map PV.int),.lst (pl.map Zcw),.lst (l.map PV.int),.lst ((Zck b (pl.take i)).map PV.int),v]) ⟨_,rfl⟩ (by
  rintro i x ρ hx ⟨v,rfl⟩
  rw[ZtT] at hx
  obtain⟨p,hp,rfl⟩:=Zur.mp hx
  have hi:i<pl.length:=(ZtC.mp hp).1
  have hpe:pl.getD i 0=p:=by rw[Zt8,hp];rfl
  obtain⟨⟨⟨o1,o2⟩,o3⟩,o4⟩:=h.ok i hi
  rw[hpe] at o1 o2 o3 o4
  have hs:Zck b (pl.take (i+1))=UP (Zck b (pl.take i)) p:=by
   rw[ZuS,hp]
   exact Zbt b p _
  rw[hs]
  have hl:=Zhy b (pl.take i)
  generalize Zck b (pl.take i)=c at hl o3
  unfold Zcw
  walk_at "pd"
  rw[decide_eq_true o1,decide_eq_true (show p<(c.length:Int) by omega),Qs,decide_eq_false o4,decide_eq_false (show ¬c.getD p.toNat 0=0 by omega)]
  walk_at "pd"
  rw[ZoF ⟨o1,by omega,by omega⟩]
  simp only[Zcd,Zg9]
  walk_at "pd"
  exact JG ⟨_,rfl⟩)
 walk_at "pd"
 rw[ZtG,ZuV]
theorem Zp6 {b pl l:List Int} (h:ZjS b pl l/\b.length<=1000):Zoi.fn [.lst (b.map PV.int),.lst (pl.map Zcw),.lst (l.map PV.int)]=.ok (.lst ((Zck b pl).map PV.int)):=Pm.fn_eq Zoi (b,pl,l) h (fun(a:List Int×List Int×List Int) e=>by
 have e':a=(b,pl,l):=by
  simp only[Zoi,List.cons.injEq,PV.lst.injEq,and_true] at e
  exact Prod.ext (Jn e.1) (Prod.ext (Zds (fun x y z=>by simp only[Zcw,PV.tup.injEq,List.cons.injEq,PV.int.injEq,and_true,true_and] at z;exact z) e.2.1) (Jn e.2.2))
 rw[e'])
theorem Ze3 {b o l:List Int} (h:Wob b o l) (c:o∈Uy (Z5 b.length l) b):ZjS b (ZiD b o l) l/\Zck b (ZiD b o l)=o/\(ZiD b o l).length<=1000:=by
 obtain⟨F,B,O⟩:=h.fw
 obtain⟨ys,ps,C,c0,P,hl,hn⟩:=ZaR F c
 have e:ZiD b o l=((List.range (goN (Z5 b.length l) b o)).map ps).reverse:=by
  have:=C.org (((Uy (Z5 b.length l) b).map tI).length+1) 0 (Zub _) (by rw[ZtG];omega)
  rw[c0] at this
  unfold ZiD
  rw[this]
  simp
 rw[<- e] at P
 refine⟨⟨fun t ht=>?_⟩,P.led,by rw[P.len];exact hn⟩
 obtain⟨q1,q2⟩:=P.ok t (by rw[<- P.len];exact ht)
 have:=Q3.mp q1
 exact⟨⟨this.1,q2⟩,this.2⟩
theorem ZcH {b o l:List Int} (h:Wob b o l) (c:o ∉ Uy (Z5 b.length l) b):ZdJ (ZgE (Z5 b.length l) b) b o l:=by
 obtain⟨F,B,O⟩:=h.fw
 have l1:=B.lo
 have l2:=B.hi
 refine⟨F.com.mpr .refl,fun z=>c ?_,by omega,by omega,fun x hx=>(F.com.mp hx).bs F.hP F.hb,fun x hx y hy=>?_,ZbV (ZiV _ _), ?_⟩
 ·exact F.mem.mpr (F.com.mp z)
 ·have Bx:=(F.com.mp hx).bs F.hP F.hb
  rw[Bx.1] at hy
  obtain⟨y1,y2,y3⟩:=VZ.mp hy
  rw[F.com,y3]
  exact(F.com.mp hx).step y1 y2
 ·unfold ZgE
  rw[(JE _).length_eq]
  exact F.le _
noncomputable def ZnW:Pm:=⟨List Int×List Int×List Int,fun a=>[Zg8 a.1 a.2.1 a.2.2,.lst (a.1.map PV.int),.lst (a.2.1.map PV.int),.lst (a.2.2.map PV.int)],fun a=>Wob a.1 a.2.1 a.2.2,fun _=>.ok (.bl true)⟩
theorem Zsf (T:Txt K mg) {f:Addr}{fd:FuncData} (F:Fun K "_law_right" "_law_right" ZnO f fd):JB P w K mg base CX0 4 f fd ["told", "board", "other", "bars"] (spF K 4 .P W0 ZnW.fn):=by
 have Ztb:=Vz (P:=P) (w:=w) (base:=base) T.ZsP Zs7 (fun F=>Zsv T F)
 have Ztp:=Vz (P:=P) (w:=w) (base:=base) T.Zti ZsV (fun F=>ZsJ T F)
 refine F.okP ZrY rfl rfl (fun cdv A outer s H E hr=>?_)
 have hu:=hr.units
 refine⟨_,_,⟨[],[],[],.P⟩,rfl,(Zg (Jm (PW.pt (Vs (JP (JO (Zo (Ji (K:=K) (n := "tuple") rfl) rfl T.z_isinstance ZF (Za (pv 0) (Za (JF (v:=.ty "tuple") rfl T.z_tuple ZdH rfl) Zf))))) (Vy (Zy (VH (K:=K) hu) (Zo (Zw (K:=K)) rfl T.z_len ZY (Za (pv 0) Zf)) Zi (Z9 _))))) (Zl (Z3 UD)) ZA)
   (Zg (Jm (Zy (J0 (K:=K) hu) (ZC (Zp (K:=K)) (pv 0) Zi (fun _ _=>rfl)) JQ (Z9 _)) (Zl (Z3 (JV (J0 (K:=K) hu) (Zr Ztp (hr.mono (by decide)) rfl (Za (pv 1) (Za (ZC (Zp (K:=K)) (pv 0) Zi (fun _ _=>rfl)) (Za (pv 3) Zf)))) (pv 2) (Z9 _)))) ZA)
   (Zl (Z3 (QR (JV (J0 (K:=K) hu) (ZC (Zp (K:=K)) (pv 0) Zi (fun _ _=>rfl)) JQ (Z9 _)) (QQ (Zr Ztb (hr.mono (by decide)) rfl (Za (ZC (Zp (K:=K)) (pv 0) Zi (fun _ _=>rfl)) (Za (pv 1) (Za (pv 2) (Za (pv 3) Zf))))))))))),
   (Zm (Γm:=[.S,.S,.S,.S]) (Jo (Vu (JR (Zb6 (DE.toA (V4 (Zc (i:=0) (m:=.S) rfl (by decide)))))) (Zv (DE.toA (ZX (g:=(!·)) (DE.toA (ZW (Zb (Zc (i:=0) (m:=.S) rfl (by decide)) Zd))) (DE.toA Zj)))))
   (ZH UG)
   ZB)
   (Zm (Γm:=[.S,.S,.S,.S]) (Jo (Zv (DE.toA (ZX (g:=id) (Zx (te:=tC .non) (Zc (i:=0) (m:=.S) rfl (by decide)) (DE.toA Zj)) (DE.toA JS))))
   (ZH (ZX (g:=id) (DE.toA (Zer (Ze (Ze (Ze Zq))) (Zb (Zc (i:=1) (m:=.S) rfl (by decide)) (Zb (Zx (te:=tC .non) (Zc (i:=0) (m:=.S) rfl (by decide)) (DE.toA Zj)) (Zb (Zc (i:=3) (m:=.S) rfl (by decide)) Zd))))) (Zc (i:=2) (m:=.S) rfl (by decide))))
   ZB)
   (ZH (Zag (DE.toA (ZX (g:=id) (Zx (te:=tC .non) (Zc (i:=0) (m:=.S) rfl (by decide)) (DE.toA Zj)) (DE.toA JS))) (Zah (Ze (Ze (Ze (Ze Zq)))) (Zb (Zx (te:=tC .non) (Zc (i:=0) (m:=.S) rfl (by decide)) (DE.toA Zj)) (Zb (Zc (i:=1) (m:=.S) rfl (by decide)) (Zb (Zc (i:=2) (m:=.S) rfl (by decide)) (Zb (Zc (i:=3) (m:=.S) rfl (by decide)) Zd))))))))), ?_⟩
 refine Pm.ref ZnW (g:=fun xs=>_) ?_
 rintro⟨b,o,l⟩ (h:Wob b o l)
 simp only[ZnW]
 obtain⟨F,B,O⟩:=h.fw
 have l1:=B.lo
 have l2:=B.hi
 unfold Zg8
 by_cases c:o∈Uy (Z5 b.length l) b
 ·obtain⟨w1,w2,_⟩:=Ze3 h c
  rw[if_pos c]
  walk_at "pd"
  rw[Zp6 ⟨w1,by omega⟩,w2]
  walk_at "pd"
 ·rw[if_neg c]
  have S:=ZcH h c
  walk_at "pd"
  rw[show llQ (ZgE (Z5 b.length l) b)=.lst ((ZgE (Z5 b.length l) b).map Vp) from rfl,Zpe S]
  walk_at "pd"
theorem ZoR {b o l:List Int} (h:Wob b o l):ZnW.fn [Zg8 b o l,.lst (b.map PV.int),.lst (o.map PV.int),.lst (l.map PV.int)]=.ok (.bl true):=Pm.fn_eq ZnW (b,o,l) h (fun _ _=>rfl)
theorem Bar.barB {n:Nat}{l:List Int} (h:Bar n l):ZjU n l:=by
 refine⟨h.al, ?_,fun z=>h.ne (List.length_eq_zero_iff.mp z),h.nn⟩
 unfold riB
 refine Zuo.mpr fun i hi=>decide_eq_true ?_
 have hi:=Zug.mp hi
 have:=Zuz.mp h.up i (i+1) (by omega) (by omega) (by omega)
 rw[Zt8,Zt8,Zt9 (show i<l.length by omega),Zt9 (show i+1<l.length by omega)]
 exact this
noncomputable def Znc:Bool:=(List.range 11).all fun(p:Nat)=>(List.range 41).all fun(s:Nat)=>decide ((p=2\/(p=3/\s<11)\/(p=4/\s<7)\/(p=5/\s<5)\/(6<=p/\s<4))->cbN p s<=1000)
theorem Zlf:Znc=true:=by decide +kernel
theorem Zmm (c:Int):2<=fwP c/\fwP c<=10/\0<=fwS c/\fwS c<=40/\cbN (fwP c) (fwS c)<=1000:=by
 have key:∀(p s:Nat),p<11->s<41->(p=2\/(p=3/\s<11)\/(p=4/\s<7)\/(p=5/\s<5)\/(6<=p/\s<4))->cbN p s<=1000:=fun p s hp hs hc=>by
  have h:=Zuo.mp (Zuo.mp Zlf p (Zug.mpr hp)) s (Zug.mpr hs)
  exact of_decide_eq_true h hc
 unfold fwP fwS
 split
 ·rename_i e
  have m1:=Zup (stir c 5) (show (4:Int)≠0 by decide)
  have m2:=Zud (stir c 5) (show (0:Int)<4 by decide)
  refine⟨by omega,by omega,m1,by omega, ?_⟩
  have:=key (6+c/4%5).toNat (stir c 5%4).toNat (by omega) (by omega) (by omega)
  rw[Zu0 (by omega),Zu0 m1] at this
  exact this
 ·rename_i e
  have h4:(c/4%4=0\/c/4%4=1\/c/4%4=2\/c/4%4=3):=by omega
  have fin:∀(p:Nat) (m:Int),0<m->m<=41->(p=2/\m=41\/p=3/\m=11\/p=4/\m=7\/p=5/\m=5)->2<=(p:Int)/\(p:Int)<=10/\0<=stir c 5%m/\stir c 5%m<=40/\cbN p (stir c 5%m)<=1000:=fun p m m0 m1 hc=>by
   have q1:=Zup (stir c 5) (show m≠0 by omega)
   have q2:=Zud (stir c 5) m0
   have:=key p (stir c 5%m).toNat (by omega) (by omega) (by omega)
   rw[Zu0 q1] at this
   exact⟨by omega,by omega,q1,by omega,this⟩
  rcases h4 with z|z|z|z<;>rw[z]
  ·exact fin 2 41 (by decide) (by decide) (by decide)
  ·exact fin 3 11 (by decide) (by decide) (by decide)
  ·exact fin 4 7 (by decide) (by decide) (by decide)
  ·exact fin 5 5 (by decide) (by decide) (by decide)
theorem Zdh {g:Bool->Bool}{n:Nat}{x:PV} (h:Dat n x) (hn:n<=64:=by decide):US g x x=.ok (.bl (g true)):=by
 unfold US
 rw[h.ok hn,Bool.and_self,if_pos rfl,PySem.SeqAt.eqv_refl _ h.can]
theorem ZkF {L:List (List Int)}{k:Nat}{j:Int} (h:k<L.length) (hq:(L.getD k []).length<1000000):pGo (fun z=>pApp z (.int j)) (.lst (L.map Vp)) [(k:Int)]=.ok (.lst ((L.set k (L.getD k []++[j])).map Vp)):=by
 have e1:ixN (L.map Vp).length (k:Int)=some k:=by
  unfold ixN
  rw[if_pos (by omega),if_pos (by rw[ZtG];omega)];simp
 have e2:(L.map Vp).getD k .non=.lst ((L.getD k []).map PV.int):=by
  rw[Zt8,ZtT,Zt9 h,Zt8,Zt9 h];rfl
 simp only[pGo,e1,e2]
 rw[Zbo hq]
 simp only[Rr.bind_ok,List.map_set]
 rfl
noncomputable def QJ (L:List (List Int)) (k:Nat):List (List Int):=(List.range L.length).map fun i=>if i<k then L.getD i []++[0] else L.getD i []
theorem JM (L:List (List Int)) (k:Nat):(QJ L k).length=L.length:=by simp[QJ]
theorem V5 {L:List (List Int)}{k i:Nat} (h:i<L.length):(QJ L k).getD i []=if i<k then L.getD i []++[0] else L.getD i []:=by simp[QJ,h]
theorem Zll {a b:List (List Int)} (hl:a.length=b.length) (h:∀i,i<a.length->a.getD i []=b.getD i []):a=b:=by
 refine ZvB hl fun i h1 h2=>?_
 have:=h i h1
 rw[Zt8,Zt8,Zt9 h1,Zt9 h2] at this
 exact this
theorem ZjN (L:List (List Int)):QJ L 0=L:=Zll (JM L 0) fun i hi=>by
 rw[JM] at hi
 rw[V5 hi,if_neg (by omega)]
theorem ZjM {L:List (List Int)}{k:Nat} (h:k<L.length):(QJ L k).set k ((QJ L k).getD k []++[0])=QJ L (k+1):=Zll (by simp[JM]) fun i hi=>by
 rw[ZuM,JM] at hi
 rw[V5 hi]
 by_cases c:k=i
 ·subst c
  rw[if_pos (by omega),Zt8,ZtX (by rw[JM];exact h)]
  show (QJ L k).getD k []++[0]=_
  rw[V5 h,if_neg (by omega)]
 ·rw[Zt8,Zuj c,<- Zt8,V5 hi]
  by_cases d:i<k
  ·rw[if_pos d,if_pos (by omega)]
  ·rw[if_neg d,if_neg (by omega)]
def RS.nxt (r:RS) (I:List PV->Prop):Prop:=match r with
 |.next ρ=>I ρ
 |_=>False
theorem ZmH {I:List PV->Prop}{ρ:List PV} (h:I ρ):RS.nxt (.next ρ) I:=h
theorem ZiR {X:RS}{T:List PV->RS}{v:Rr PV} (P:List PV->Prop) (h1:RS.nxt X P) (h2:∀ρ,P ρ->(T ρ).out=v):(X.seq T).out=v:=by
 cases X with
 |next ρ=>exact h2 ρ h1
 |_=>exact h1.elim
theorem Zfk {f:PV->Rr PV}{x y:PV}{cs:List Int}:pGo f (.tup [x,y]) (1::cs)=(pGo f y cs).bind fun z=>.ok (.tup [x,z]):=rfl
theorem Zgh {w:Str}{x:PV} (hw:PyData.canLay0 (.str w)=true) (h:Dat 2 x):Dat 3 (.tup [.str w,x]):=Zgi fun y hy=>by
 simp only[ZtN,ZvC,or_false] at hy
 rcases hy with rfl|rfl
 ·exact(Zgj hw).up (by decide)
 ·exact h
theorem ZhL (ps:List Int):Dat 2 (.lst (ps.map Zcw)):=Zcx fun x hx=>by
 obtain⟨p,_,rfl⟩:=ZtY.mp hx
 refine Zgi fun y hy=>?_
 simp only[ZtN,ZvC,or_false] at hy
 rcases hy with rfl|rfl
 ·exact Zgj (by rw[PyData.canLay0];decide +kernel)
 ·exact ZaG _
theorem Zbl {ps:List Int} (h:ps.length<=1000000):QT [.lst (ps.map Zcw)]=.ok (.lst (ps.map Zcw)):=by
 simp only[QT]
 rw[if_pos (Ul (q:=Zcw) (fun _=>rfl) ps)]
 exact Zip (q:=Zcw) (fun _=>rfl) h
theorem Zbk {L:List (List Int)} (h0:L≠[]) (h:L.length<=1000000):QT [.lst (L.map Vp)]=.ok (.box none .jk []):=by
 simp only[QT]
 rw[if_neg (by cases L with|nil=>exact absurd rfl h0|cons x L=>simp[PV.flats,Vp,PV.flat]),if_pos (by simpa using h)]
noncomputable def ZqZ:Pm:=⟨List Int,fun ns=>[.lst (ns.map PV.int)],fun ns=>ns.length<=63,fun _=>.ok (.bl true)⟩
theorem Zt5 (T:Txt K mg) {f:Addr}{fd:FuncData} (F:Fun K "law" "law" Zsq f fd):JB P w K mg base CX0 7 f fd ["script"] (spF K 1 .P W0 ZqZ.fn):=by
 have Ztq:=Vz (P:=P) (w:=w) (base:=base) T.Ztj ZsW (fun F=>ZsK T F)
 have Zto:=Vz (P:=P) (w:=w) (base:=base) T.Zth ZsU (fun F=>ZsI T F)
 have ZrM:=Vz (P:=P) (w:=w) (base:=base) T.ZsQ Zs8 (fun F=>Zsw T F)
 have Ztc:=Vz (P:=P) (w:=w) (base:=base) T.ZsR Zs9 (fun F=>Zsx T F)
 have Zr2:=Zfv (P:=P) (w:=w) (base:=base) T.Zsy Zsj (fun F=>Zsb T F)
 have Znu:=Vz (P:=P) (w:=w) (base:=base) T.Zpy Zpg (fun F=>ZoX T F)
 have ZpM:=Vz (P:=P) (w:=w) (base:=base) T.Zrb Zqx (fun F=>Zqw T F)
 have ZsD:=Vz (P:=P) (w:=w) (base:=base) T.Zs2 Zsn (fun F=>Zsf T F)
 have ZnA:=Vz (P:=P) (w:=w) (base:=base) T.ZoH ZoB (fun F=>Zo8 T F)
 refine F.okP ZoJ rfl rfl (fun cdv A outer s H E hr=>?_)
 have hu:=hr.units
 refine⟨_,_,⟨[],[],[],.P⟩,rfl,(Zg (U8 (Zr Ztq (hr.mono (by decide)) rfl (Za (pv 0) Zf)) (Zk4 rfl (Zdd (Jg (i:=1) ZoJ.nd rfl (by first|exact Or.inl rfl|exact Or.inr rfl)) (Zdd (Jg (i:=2) ZoJ.nd rfl (by first|exact Or.inl rfl|exact Or.inr rfl)) Zjd))))
   (Zg (Z2 (i:=3) ZoJ.nd rfl (by first|exact Or.inl rfl|exact Or.inr rfl) (Zr Zto (hr.mono (by decide)) rfl (Za (pv 0) (Za Zi (Za (Z6 U1 Zi (pv 2)) (Za (pv 1) (Za (JV (J0 (K:=K) hu) (Z6 ZS (Z6 Jz (Zr Znu (hr.mono (by decide)) rfl (Za (pv 0) (Za Zi Zf))) Zi) Zi) Zi (Z9 _)) Zf)))))))
   (Zg (Z2 (i:=4) ZoJ.nd rfl (by first|exact Or.inl rfl|exact Or.inr rfl) (Zr ZrM (hr.mono (by decide)) rfl (Za (Zat (Zaq (K:=K)) (pv 3) Zcb (Zca (pv 2))) (Za (pv 1) Zf))))
   (Zg (Z2 (i:=5) ZoJ.nd rfl (by first|exact Or.inl rfl|exact Or.inr rfl) (Zr ZrM (hr.mono (by decide)) rfl (Za (Zat (Zaq (K:=K)) (pv 3) (Zca (pv 2)) Zcb) (Za (pv 1) Zf))))
   (Zg (Z2 (i:=6) ZoJ.nd rfl (by first|exact Or.inl rfl|exact Or.inr rfl) (Zr Ztc (hr.mono (by decide)) rfl (Za (pv 0) (Za (pv 1) Zf))))
   (Zg (Jm (Zy (J0 (K:=K) hu) (Z6 ZS (Zr Znu (hr.mono (by decide)) rfl (Za (pv 0) (Za Zi Zf))) Zi) Zi (Z9 _)) (Zg (Z2 (i:=5) ZoJ.nd rfl (by first|exact Or.inl rfl|exact Or.inr rfl) (ZG (Jl (K:=K)) rfl T.z_list Js (Za (pv 4) Zf)))
   (Zl (J5 PassesOwn.never rfl (Qi rfl T.z_range (Za Zi (Za (Zo (Zw (K:=K)) rfl T.z_len ZY (Za (pv 0) Zf)) Zf))) (Jg (i:=7) ZoJ.nd rfl (by first|exact Or.inl rfl|exact Or.inr rfl)) (Zg (Z2 (i:=8) ZoJ.nd rfl (by first|exact Or.inl rfl|exact Or.inr rfl) (Zr ZpM (hr.mono (by decide)) rfl (Za (pv 5) (Za (pv 6) Zf))))
   (Zl (Jm (PW.pt (ZeQ (Zy Zfu (Zo (Zw (K:=K)) rfl T.z_len ZY (Za (pv 8) Zf)) Zi (Z9 _)) (ZbZ (Zy Zay (pv 7) Zi (Z9 _))))) (Zl (Z2 (i:=5) ZoJ.nd rfl (by first|exact Or.inl rfl|exact Or.inr rfl) (ZC (Zp (K:=K)) (ZC (Zp (K:=K)) (pv 8) (Z6 ZS (Zr ZnA (hr.mono (by decide)) rfl (Za (Zr Znu (hr.mono (by decide)) rfl (Za (pv 0) (Za (pv 7) Zf))) (Za (pv 7) Zf))) (Zo (Zw (K:=K)) rfl T.z_len ZY (Za (pv 8) Zf))) (fun _ _=>rfl)) Zi (fun _ _=>rfl)))) ZA)))))) ZA)
   (Zg (Z2 (i:=9) ZoJ.nd rfl (by first|exact Or.inl rfl|exact Or.inr rfl) (Va (Za (ZG (Jl (K:=K)) rfl T.z_list Js (Za (pv 4) Zf)) (Za (ZG (Jl (K:=K)) rfl T.z_list Js (Za (pv 5) Zf)) (Za (ZG (Jl (K:=K)) rfl T.z_list Js (Za (pv 6) Zf)) Zf)))))
   (Zg (Z2 (i:=10) ZoJ.nd rfl (by first|exact Or.inl rfl|exact Or.inr rfl) (Vh Zr2 (hr.mono (by decide)) rfl Zfb (Za (ZC (Zp (K:=K)) (pv 9) Zi (fun _ _=>rfl)) (Za (ZC (Zp (K:=K)) (pv 9) Zi (fun _ _=>rfl)) (Za (ZC (Zp (K:=K)) (pv 9) Zi (fun _ _=>rfl)) Zf)))))
   (Zg (Jm (PW.pt (Vs (Zy (VH (K:=K) hu) (pv 9) (Va (Za (pv 4) (Za (pv 5) (Za (pv 6) Zf)))) (Z9 _)) (Vy (JP (JO (Zr ZsD (hr.mono (by decide)) rfl (Za (pv 10) (Za (pv 4) (Za (pv 5) (Za (pv 6) Zf)))))))))) (Zl (Z3 UD)) ZA)
   (Zg (Jm (PW.pt (ZeQ (Zy (J0 (K:=K) hu) (Z6 ZS (Zr Znu (hr.mono (by decide)) rfl (Za (pv 0) (Za Zi Zf))) Zi) Zi (Z9 _)) (ZbZ (Zy (VH (K:=K) hu) (ZC (Zp (K:=K)) (pv 10) Zi (fun _ _=>rfl)) JQ (Z9 _))))) (Zl (Z3 UD)) ZA)
   (Zg (Z2 (i:=11) ZoJ.nd rfl (by first|exact Or.inl rfl|exact Or.inr rfl) (Va (Za (ZC (Zp (K:=K)) (pv 10) Zi (fun _ _=>rfl)) (Za (ZG (Jl (K:=K)) rfl T.z_list Js (Za (ZC (Zp (K:=K)) (pv 10) Zi (fun _ _=>rfl)) Zf)) Zf))))
   (Zg (Jm (Zy (J0 (K:=K) hu) (ZC (Zp (K:=K)) (pv 10) Zi (fun _ _=>rfl)) JQ (Z9 _)) (Zg (U8 (U0 (Jk (K:=K) (ZC (Zp (K:=K)) (pv 10) Zi (fun _ _=>rfl))) (fun _ _ _ _=>(ZG (Jl (K:=K)) rfl T.z_list Js (Za (pv 13) Zf))) ZoJ.nd rfl) (Qj (pv 11) Zi JN))
   (Zl (J5 PassesOwn.never rfl (Jf rfl T.z_range (Za (Zo (Zw (K:=K)) rfl T.z_len ZY (Za (ZC (Zp (K:=K)) (pv 11) Zi (fun _ _=>rfl)) Zf)) Zf)) (Jg (i:=7) ZoJ.nd rfl (by first|exact Or.inl rfl|exact Or.inr rfl)) (Zg (Jm (Zy (VH (K:=K) hu) (ZC (Zp (K:=K)) (ZC (Zp (K:=K)) (pv 10) Zi (fun _ _=>rfl)) (pv 7) (fun _ _=>rfl)) (ZC (Zp (K:=K)) (ZC (Zp (K:=K)) (pv 11) Zi (fun _ _=>rfl)) (pv 7) (fun _ _=>rfl)) (Z9 _)) (Zl (Z3 UD)) ZA)
   (Zl (J3 (ZdS PySem.F.plainAttrs_list PySem.F.slot_list_append PySem.F.type_list_append Vb (ZC (Zp (K:=K)) (ZC (Zp (K:=K)) (pv 10) Zi (fun _ _=>rfl)) (pv 7) (fun _ _=>rfl)) (Za Zi Zf)))))))) ZA)
   (Zg (J3 (ZdS PySem.F.plainAttrs_list PySem.F.slot_list_append PySem.F.type_list_append Vb (ZC (Zp (K:=K)) (pv 10) Zi (fun _ _=>rfl)) (Za (Va (Za Zi Zf)) Zf)))
   (Zg (Z2 (i:=12) ZoJ.nd rfl (by first|exact Or.inl rfl|exact Or.inr rfl) (Vh Zr2 (hr.mono (by decide)) rfl Zfb (Za (ZC (Zp (K:=K)) (pv 9) Zi (fun _ _=>rfl)) (Za (ZC (Zp (K:=K)) (pv 9) Zi (fun _ _=>rfl)) (Za (ZC (Zp (K:=K)) (pv 9) Zi (fun _ _=>rfl)) Zf)))))
   (Zl (Z3 (QR (JV (J0 (K:=K) hu) (pv 12) (VG (Za (ZC (Zp (K:=K)) (pv 11) Zi (fun _ _=>rfl)) (Za (ZC (Zp (K:=K)) (pv 11) Zi (fun _ _=>rfl)) Zf))) (Z9 _)) (QQ (JV (J0 (K:=K) hu) (pv 9) (Va (Za (pv 4) (Za (pv 5) (Za (pv 6) Zf)))) (Z9 _)))))))))))))))))))),
   (Zm (Γm:=[.S,.P,.P,.U,.U,.U,.U,.U,.U,.U,.U,.U,.U]) (ZjA (DE.PF (Zah (Ze Zq) (Zb (Zc (i:=0) (m:=.S) rfl (by decide)) Zd))) (ZjD (n:=2) (Zb7 (Zlr (i:=1) (by decide)) (Zb7 (Zlr (i:=2) (by decide)) ZhD))))
   (Zm (Γm:=[.S,.P,.P,.O,.U,.U,.U,.U,.U,.U,.U,.U,.U]) (ZM (i:=3) (Zer (Ze (Ze (Ze (Ze (Ze Zq))))) (Zb (Zc (i:=0) (m:=.S) rfl (by decide)) (Zb (DE.toA Zj) (Zb (DE.toA (Zaf (DE.toA Zj) (DE.toA (Zk (i:=2) rfl)))) (Zb (DE.toA (Zk (i:=1) rfl)) (Zb (DE.toA (ZX (g:=id) (DE.toA (ZV (DE.toA (VL (DE.toA (Zah (Ze (Ze Zq)) (Zb (Zc (i:=0) (m:=.S) rfl (by decide)) (Zb (DE.toA Zj) Zd)))) (DE.toA Zj))) (DE.toA Zj))) (DE.toA Zj))) Zd)))))) (by decide))
   (Zm (Γm:=[.S,.P,.P,.O,.O,.U,.U,.U,.U,.U,.U,.U,.U]) (ZM (i:=4) (Zer (Ze (Ze Zq)) (Zb (DE.toA (ZfY (Zc (i:=3) (m:=.O) rfl (by decide)) Zcs (Zcr (DE.toA (Zk (i:=2) rfl))))) (Zb (DE.toA (Zk (i:=1) rfl)) Zd))) (by decide))
   (Zm (Γm:=[.S,.P,.P,.O,.O,.O,.U,.U,.U,.U,.U,.U,.U]) (ZM (i:=5) (Zer (Ze (Ze Zq)) (Zb (DE.toA (ZfY (Zc (i:=3) (m:=.O) rfl (by decide)) (Zcr (DE.toA (Zk (i:=2) rfl))) Zcs)) (Zb (DE.toA (Zk (i:=1) rfl)) Zd))) (by decide))
   (Zm (Γm:=[.S,.P,.P,.O,.O,.O,.O,.U,.U,.U,.U,.U,.U]) (ZM (i:=6) (Zer (Ze (Ze Zq)) (Zb (Zc (i:=0) (m:=.S) rfl (by decide)) (Zb (DE.toA (Zk (i:=1) rfl)) Zd))) (by decide))
   (Zm (Γm:=[.S,.P,.P,.O,.O,.S,.O,.U,.U,.U,.U,.U,.U]) (Jo (Zv (DE.toA (ZX (g:=id) (DE.toA (ZV (DE.toA (Zah (Ze (Ze Zq)) (Zb (Zc (i:=0) (m:=.S) rfl (by decide)) (Zb (DE.toA Zj) Zd)))) (DE.toA Zj))) (DE.toA Zj))))
   (Zm (Γm:=[.S,.P,.P,.O,.O,.O,.O,.U,.U,.U,.U,.U,.U]) (ZM (i:=5) (JT (Zb (Zc (i:=4) (m:=.O) rfl (by decide)) Zd)) (by decide))
   (J7 (Γl:=[.S,.P,.P,.O,.O,.S,.O,.U,.U,.U,.U,.U,.U]) (Zcv (Zb (DE.toA Zj) (Zb (DE.toA (ZW (Zb (Zc (i:=0) (m:=.S) rfl (by decide)) Zd))) Zd))) rfl (Zep (i:=7) (by decide))
   (DS.out (Y:=⟨[.S,.P,.P,.O,.O,.S,.O,.P,.S,.U,.U,.U,.U],[.S,.P,.P,.O,.O,.S,.O,.U,.U,.U,.U,.U,.U],[.S,.P,.P,.O,.O,.S,.O,.U,.U,.U,.U,.U,.U],.P⟩) (Y':=⟨[.S,.P,.P,.O,.O,.S,.O,.U,.U,.U,.U,.U,.U],[.S,.P,.P,.O,.O,.S,.O,.U,.U,.U,.U,.U,.U],[.S,.P,.P,.O,.O,.S,.O,.U,.U,.U,.U,.U,.U],.P⟩) (Zm (Γm:=[.S,.P,.P,.O,.O,.S,.O,.P,.O,.U,.U,.U,.U]) (ZM (i:=8) (Zer (Ze (Ze Zq)) (Zb (Zc (i:=5) (m:=.S) rfl (by decide)) (Zb (Zc (i:=6) (m:=.O) rfl (by decide)) Zd))) (by decide))
   (Jo (ZfQ (Zv (DE.toA (Zgd (DE.toA (ZW (Zb (Zc (i:=8) (m:=.O) rfl (by decide)) Zd))) (DE.toA Zj)))) (Zv (DE.toA (Zb9 (DE.toA (Zk (i:=7) rfl)) (DE.toA Zj)))))
   (Zj7 (i:=5) (Zgc (te:=tC .non) (Zgc (te:=tC .non) (ZjE (i:=8) (m:=.O) rfl (by decide)) (DE.toA (ZV (DE.toA (Zah (Ze (Ze Zq)) (Zb (DE.toA (Zah (Ze (Ze Zq)) (Zb (Zc (i:=0) (m:=.S) rfl (by decide)) (Zb (DE.toA (Zk (i:=7) rfl)) Zd)))) (Zb (DE.toA (Zk (i:=7) rfl)) Zd)))) (DE.toA (ZW (Zb (Zc (i:=8) (m:=.S) rfl (by decide)) Zd)))))) (DE.toA Zj)) (by decide))
   (DS.out (Y:=⟨[.S,.P,.P,.O,.O,.S,.O,.P,.O,.U,.U,.U,.U],[.S,.P,.P,.O,.O,.S,.O,.U,.U,.U,.U,.U,.U],[.S,.P,.P,.O,.O,.S,.O,.U,.U,.U,.U,.U,.U],.P⟩) (Y':=⟨[.S,.P,.P,.O,.O,.S,.O,.P,.S,.U,.U,.U,.U],[.S,.P,.P,.O,.O,.S,.O,.U,.U,.U,.U,.U,.U],[.S,.P,.P,.O,.O,.S,.O,.U,.U,.U,.U,.U,.U],.P⟩) ZB rfl rfl rfl rfl))) rfl rfl rfl rfl)))
   (DS.out (Y:=⟨[.S,.P,.P,.O,.O,.O,.O,.U,.U,.U,.U,.U,.U],[],[],.P⟩) (Y':=⟨[.S,.P,.P,.O,.O,.S,.O,.U,.U,.U,.U,.U,.U],[],[],.P⟩) ZB rfl rfl rfl rfl))
   (Zm (Γm:=[.S,.P,.P,.O,.O,.S,.O,.U,.U,.O,.U,.U,.U]) (ZM (i:=9) (JW (ZE (JT (Zb (Zc (i:=4) (m:=.O) rfl (by decide)) Zd)) (ZE (JT (Zb (Zc (i:=5) (m:=.S) rfl (by decide)) Zd)) (ZE (JT (Zb (Zc (i:=6) (m:=.O) rfl (by decide)) Zd)) Jq)))) (by decide))
   (Zm (Γm:=[.S,.P,.P,.O,.O,.S,.O,.U,.U,.O,.O,.U,.U]) (ZM (i:=10) (ZmM (Ze (Ze (Ze Zq))) (Zb (Zx (te:=tC .non) (Zc (i:=9) (m:=.O) rfl (by decide)) (DE.toA Zj)) (Zb (Zx (te:=tC .non) (Zc (i:=9) (m:=.O) rfl (by decide)) (DE.toA Zj)) (Zb (Zx (te:=tC .non) (Zc (i:=9) (m:=.O) rfl (by decide)) (DE.toA Zj)) Zd)))) (by decide))
   (Zm (Γm:=[.S,.P,.P,.O,.O,.S,.O,.U,.U,.O,.O,.U,.U]) (Jo (Vu (Zv (DE.toA (ZX (g:=(!·)) (Zc (i:=9) (m:=.O) rfl (by decide)) (Zgb (Zb (Zc (i:=4) (m:=.O) rfl (by decide)) (Zb (Zc (i:=5) (m:=.S) rfl (by decide)) (Zb (Zc (i:=6) (m:=.O) rfl (by decide)) Zd))))))) (JR (Zb6 (DE.toA (Zah (Ze (Ze (Ze (Ze Zq)))) (Zb (Zc (i:=10) (m:=.O) rfl (by decide)) (Zb (Zc (i:=4) (m:=.O) rfl (by decide)) (Zb (Zc (i:=5) (m:=.S) rfl (by decide)) (Zb (Zc (i:=6) (m:=.O) rfl (by decide)) Zd)))))))))
   (ZH UG)
   ZB)
   (Zm (Γm:=[.S,.P,.P,.O,.O,.S,.O,.U,.U,.O,.O,.U,.U]) (Jo (ZfQ (Zv (DE.toA (ZX (g:=id) (DE.toA (ZV (DE.toA (Zah (Ze (Ze Zq)) (Zb (Zc (i:=0) (m:=.S) rfl (by decide)) (Zb (DE.toA Zj) Zd)))) (DE.toA Zj))) (DE.toA Zj)))) (Zv (DE.toA (ZX (g:=(!·)) (Zx (te:=tC .non) (Zc (i:=10) (m:=.O) rfl (by decide)) (DE.toA Zj)) (DE.toA JS)))))
   (ZH UG)
   ZB)
   (Zm (Γm:=[.S,.P,.P,.O,.O,.S,.O,.U,.U,.O,.O,.O,.U]) (ZM (i:=11) (JW (ZE (DE.PF (DE.grd (Zx (te:=tC .non) (Zc (i:=10) (m:=.O) rfl (by decide)) (DE.toA Zj)))) (ZE (ZhG (Zb (Zx (te:=tC .non) (Zc (i:=10) (m:=.O) rfl (by decide)) (DE.toA Zj)) Zd)) Jq))) (by decide))
   (Zm (Γm:=[.S,.P,.P,.O,.O,.S,.O,.U,.U,.O,.O,.O,.U]) (Jo (Zv (DE.toA (ZX (g:=id) (Zx (te:=tC .non) (Zc (i:=10) (m:=.O) rfl (by decide)) (DE.toA Zj)) (DE.toA JS))))
   (Zm (Γm:=[.S,.P,.P,.O,.O,.S,.O,.U,.U,.O,.O,.O,.U]) (ZfR (i:=11) rfl (ZhI (JU (DI.c (Jx (Zgc (te:=tC .non) (Vl (i:=10) rfl) (DE.toA Zj)))) (JT (Zb (Zc (i:=13) (m:=.S) rfl (by decide)) Zd)))) (DE.toA Zj))
   (J7 (Γl:=[.S,.P,.P,.O,.O,.S,.O,.U,.U,.O,.O,.O,.U]) (J4 (Zb (DE.toA (ZW (Zb (Zx (te:=tC .non) (Zc (i:=11) (m:=.O) rfl (by decide)) (DE.toA Zj)) Zd))) Zd)) rfl (Zep (i:=7) (by decide))
   (DS.out (Y:=⟨[.S,.P,.P,.O,.O,.S,.O,.P,.U,.O,.O,.O,.U],[.S,.P,.P,.O,.O,.S,.O,.U,.U,.O,.O,.O,.U],[.S,.P,.P,.O,.O,.S,.O,.U,.U,.O,.O,.O,.U],.P⟩) (Y':=⟨[.S,.P,.P,.O,.O,.S,.O,.U,.U,.O,.O,.O,.U],[.S,.P,.P,.O,.O,.S,.O,.U,.U,.O,.O,.O,.U],[.S,.P,.P,.O,.O,.S,.O,.U,.U,.O,.O,.O,.U],.P⟩) (Zm (Γm:=[.S,.P,.P,.O,.O,.S,.O,.P,.U,.O,.O,.O,.U]) (Jo (Zv (DE.toA (ZX (g:=(!·)) (Zx (te:=tC .non) (Zx (te:=tC .non) (Zc (i:=10) (m:=.O) rfl (by decide)) (DE.toA Zj)) (DE.toA (Zk (i:=7) rfl))) (Zx (te:=tC .non) (Zx (te:=tC .non) (Zc (i:=11) (m:=.O) rfl (by decide)) (DE.toA Zj)) (DE.toA (Zk (i:=7) rfl))))))
   (ZH UG)
   ZB)
   (Zeo (i:=10) rfl (ZjB (l:=7) (m:=.P) rfl (by decide) (ZfT ZfS)))) rfl rfl rfl rfl)))
   ZB)
   (Zm (Γm:=[.S,.P,.P,.O,.O,.S,.O,.U,.U,.O,.O,.O,.U]) (Zcq (i:=10) rfl (ZfT ZfS))
   (Zm (Γm:=[.S,.P,.P,.O,.O,.S,.O,.U,.U,.O,.O,.O,.O]) (ZM (i:=12) (ZmM (Ze (Ze (Ze Zq))) (Zb (Zx (te:=tC .non) (Zc (i:=9) (m:=.O) rfl (by decide)) (DE.toA Zj)) (Zb (Zx (te:=tC .non) (Zc (i:=9) (m:=.O) rfl (by decide)) (DE.toA Zj)) (Zb (Zx (te:=tC .non) (Zc (i:=9) (m:=.O) rfl (by decide)) (DE.toA Zj)) Zd)))) (by decide))
   (ZH (Zag (DE.toA (ZX (g:=id) (Zc (i:=12) (m:=.O) rfl (by decide)) (Q8 (Zb (Zx (te:=tC .non) (Zc (i:=11) (m:=.O) rfl (by decide)) (DE.toA Zj)) (Zb (Zx (te:=tC .non) (Zc (i:=11) (m:=.O) rfl (by decide)) (DE.toA Zj)) Zd))))) (ZX (g:=id) (Zc (i:=9) (m:=.O) rfl (by decide)) (Zgb (Zb (Zc (i:=4) (m:=.O) rfl (by decide)) (Zb (Zc (i:=5) (m:=.S) rfl (by decide)) (Zb (Zc (i:=6) (m:=.O) rfl (by decide)) Zd))))))))))))))))))))), ?_⟩
 refine Pm.ref ZqZ (g:=fun xs=>_) ?_
 intro (ns:List Int) (hn:ns.length<=63)
 simp only[ZqZ]
 walk_at "pd"
 rw[Zp7]
 walk_at "pd"
 obtain⟨p2,p10,s0,s40,hcb⟩:=Zmm (Ja ns 0)
 generalize fwP (Ja ns 0)=m at p2 p10 hcb
 generalize fwS (Ja ns 0)=s at s0 s40 hcb
 obtain⟨n,rfl⟩:∃n:Nat,m=n:=⟨m.toNat,by omega⟩
 rw[Znr (by omega)]
 walk_at "pd"
 rw[Zp5 ⟨by omega,⟨by omega,by omega⟩,⟨by omega,by omega⟩,by omega,by omega⟩]
 have hrl:(ZgT ns 2 (2*s) n (decide (Ja ns 0/2%2=1))).length=(2*s).toNat:=ZbX ..
 have hrb:=ZiS ns 2 (2*s) (base:=(n:Int)) (by omega) (decide (Ja ns 0/2%2=1))
 generalize ZgT ns 2 (2*s) n (decide (Ja ns 0/2%2=1))=row at hrl hrb
 walk_at "pd"
 rw[ZoG ⟨fun x hx=>hrb x (Zuc hx),by omega,by omega⟩,ZtZ]
 have B:Bs n s (lyI n (row.take s.toNat)):=by
  have:=Zjt (n:=n) (L:=row.take s.toNat) fun x hx=>hrb x (Zuc hx)
  rw[ZtR,hrl,show ((min s.toNat (2*s).toNat:Nat):Int)=s by omega] at this
  exact this
 generalize lyI n (row.take s.toNat)=b at B
 walk_at "pd"
 rw[ZoG ⟨fun x hx=>hrb x (Zuf hx),by omega,by omega⟩,ZtZ]
 have O:Bs n s (lyI n (row.drop s.toNat)):=by
  have:=Zjt (n:=n) (L:=row.drop s.toNat) fun x hx=>hrb x (Zuf hx)
  rw[Zu5,hrl,show (((2*s).toNat-s.toNat:Nat):Int)=s by omega] at this
  exact this
 generalize lyI n (row.drop s.toNat)=o at O
 walk_at "pd"
 rw[Zpf ⟨by omega,by omega⟩,ZtZ]
 have L:=Zl1 ns (n:=n) (by omega)
 generalize brS ns n=l at L
 have hll:l.length<=n:=by
  have:=Zdm n (l.map fun z=>z.toNat) (by
   rw[Zu6,ZuF]
   refine L.up.imp_of_mem ?_
   intro a c ha hc hac e
   have:=L.al a ha
   have:=L.al c hc
   omega) (fun z hz=>by
   obtain⟨y,hy,rfl⟩:=ZtY.mp hz
   have:=L.al y hy
   omega)
  rw[ZtG] at this
  exact this
 have bl:=B.1
 have hbl:b.length<=1000:=by omega
 have hll2:l.length<=1000:=by omega
 have F:ZcB n s (Z5 n l) b:=⟨by omega,fun p hp=>(Q3.mp hp).1,B,hcb⟩
 have wob:∀{x:List Int},Bs n s x->Wob b x l:=fun {x} X=>by
  obtain⟨e1,e2,e3⟩:=B
  obtain⟨x1,x2,x3⟩:=X
  exact⟨Ve.mpr ⟨by omega,by omega,e2,by omega⟩,Ve.mpr ⟨by omega,by omega,x2,by omega⟩,by rw[e1];exact L.barB,by omega,by omega,by rw[e1,e3];exact hcb,hll2⟩
 have hR0:b∈Uy (Z5 n l) b:=F.mem.mpr .refl
 walk_at "pd"
 refine ZiR (fun ρ=>∃(o:List Int) (v7 v8:PV),ρ=[.lst (ns.map PV.int),.int n,.int s,.lst (row.map PV.int),.lst (b.map PV.int),.lst (o.map PV.int),.lst (l.map PV.int),v7,v8,.non,.non,.non,.non]/\Bs n s o/\(Ja ns 1%2=1->o∈Uy (Z5 n l) b)) ?_ ?_
 ·rw[Znr (by omega)]
  walk_at "pd"
  by_cases odd:Ja ns 1%2=1
  ·rw[decide_eq_true odd,if_pos rfl]
   generalize hw:UV _ _ _=W
   obtain⟨ρ',rfl,o,v7,v8,rfl,hr⟩:=ZP hw (fun i ρ=>∃(o:List Int) (v7 v8:PV),ρ=[.lst (ns.map PV.int),.int n,.int s,.lst (row.map PV.int),.lst (b.map PV.int),.lst (o.map PV.int),.lst (l.map PV.int),v7,v8,.non,.non,.non,.non]/\Rch (Z5 n l) b o) ⟨b,_,_,rfl,.refl⟩ (by
    rintro i x ρ hx ⟨o,v7,v8,rfl,hr⟩
    obtain⟨hi,rfl⟩:=J9 hx
    have ol:=(hr.bs F.hP F.hb).1
    walk_at "pd"
    rw[Zor (by omega),ol]
    walk_at "pd"
    rw[Zaw,ZtG]
    walk_at "pd"
    by_cases c1:0<(Vv (Z5 n l) o).length
    ·rw[decide_eq_true (show (0:Int)<((Vv (Z5 n l) o).length:Nat) by omega),if_pos rfl]
     by_cases c2:1+(i:Int)<12
     ·rw[decide_eq_true c2]
      walk_at "pd"
      rw[Znr (by omega)]
      walk_at "pd"
      rw[Znt ⟨by omega,by omega⟩]
      walk_at "pd"
      have r0:=Zup (stir (Ja ns (1+(i:Int)).toNat) (1+(i:Int))) (show ((Vv (Z5 n l) o).length:Int)≠0 by omega)
      have r1:=Zud (stir (Ja ns (1+(i:Int)).toNat) (1+(i:Int))) (show (0:Int)<((Vv (Z5 n l) o).length:Int) by omega)
      generalize stir (Ja ns (1+(i:Int)).toNat) (1+(i:Int))%((Vv (Z5 n l) o).length:Int)=r at r0 r1
      rw[Zfi (q:=Zkc) (d:=(0,[])) r0 r1]
      have hm:(Vv (Z5 n l) o).getD r.toNat (0,[])∈Vv (Z5 n l) o:=by
       rw[Zt8,Zt9 (by omega)];exact ZuU _
      generalize (Vv (Z5 n l) o).getD r.toNat (0,[])=y at hm
      obtain⟨y1,y2,y3⟩:=VZ.mp hm
      rw[show Zkc y=.tup [.int y.1,.lst (y.2.map PV.int)] from rfl]
      walk_at "pd"
      exact JG ⟨y.2,_,_,rfl,by rw[y3];exact hr.step y1 y2⟩
     ·rw[decide_eq_false c2]
      walk_at "pd"
      exact JG ⟨_,_,_,rfl,hr⟩
    ·rw[decide_eq_false (show ¬(0:Int)<((Vv (Z5 n l) o).length:Nat) by omega),if_neg (by decide)]
     walk_at "pd"
     exact JG ⟨_,_,_,rfl,hr⟩)
   exact ZmH ⟨o,_,_,rfl,hr.bs F.hP F.hb,fun _=>F.mem.mpr hr⟩
  ·rw[decide_eq_false odd,if_neg (by decide)]
   exact ZmH ⟨o,_,_,rfl,O,fun z=>absurd z odd⟩
 clear O o
 rintro ρ ⟨o,v7,v8,rfl,O,hR⟩
 have ol:=O.1
 have Wo:=wob O
 have hk0:∀x y:PV,pIx (.lst [x,y]) (.int 0)=.ok x:=fun _ _=>rfl
 have hk1:∀x y:PV,pIx (.lst [x,y]) (.int 1)=.ok y:=fun _ _=>rfl
 have hx0:∀x y z:PV,pIx (.lst [x,y,z]) (.int 0)=.ok x:=fun _ _ _=>rfl
 have hx1:∀x y z:PV,pIx (.lst [x,y,z]) (.int 1)=.ok y:=fun _ _ _=>rfl
 have hx2:∀x y z:PV,pIx (.lst [x,y,z]) (.int 2)=.ok z:=fun _ _ _=>rfl
 have hE:∀g:Bool->Bool,US g (.lst [.lst (b.map PV.int),.lst (o.map PV.int),.lst (l.map PV.int)]) (.lst [.lst (b.map PV.int),.lst (o.map PV.int),.lst (l.map PV.int)])=.ok (.bl (g true)):=fun g=>by
  have:=Zhn (g:=g) [b,o,l] [b,o,l]
  rw[decide_eq_true rfl] at this
  exact this
 walk_at "pd"
 rw[hx0,hx1,hx2]
 walk_at "pd"
 rw[Zon Wo]
 walk_at "pd"
 rw[hE]
 walk_at "pd"
 rw[ZoR Wo]
 walk_at "pd"
 rw[Znr (by omega)]
 walk_at "pd"
 by_cases c:o∈Uy (Z5 n l) b
 ·have hv:Zg8 b o l=.tup [.str "way",.lst ((ZiD b o l).map Zcw)]:=by unfold Zg8;rw[bl,if_pos c]
  obtain⟨_,_,hpl⟩:=Ze3 Wo (by rw[bl];exact c)
  rw[hv]
  walk_at "pd"
  rw[show (if decide (Ja ns 1%2=1)=true then Rr.ok false else Rr.ok false)=Rr.ok false from ite_self _]
  walk_at "pd"
  rw[Zbl (by omega)]
  walk_at "pd"
  rw[Zfk]
  simp only[pGo]
  rw[Uc (by rw[ZtG];omega)]
  walk_at "pd"
  rw[hx0,hx1,hx2]
  walk_at "pd"
  rw[Zon Wo,hv]
  walk_at "pd"
  rw[hk0,hk1]
  walk_at "pd"
  rw[Zdh (Zgh (w := "way") (by rw[PyData.canLay0];decide +kernel) (ZhL _))]
  walk_at "pd"
  rw[hE]
  rfl
 ·have hv:Zg8 b o l=.tup [.str "barred",llQ (ZgE (Z5 b.length l) b)]:=by unfold Zg8;rw[bl,if_neg c]
  have S:=ZcH Wo (by rw[bl];exact c)
  rw[decide_eq_false (fun z=>c (hR z)),hv]
  walk_at "pd"
  have hne:ZgE (Z5 b.length l) b≠[]:=Zv2 S.b1
  have hsz:=S.sz
  have hbs:=S.bs
  generalize ZgE (Z5 b.length l) b=C at hne hsz hbs hv
  rw[show llQ C=.lst (C.map Vp) from rfl] at hv ⊢
  rw[Zbk hne (by omega)]
  walk_at "pd"
  rw[Za3 (g:=id) (fun x hx=>by
   obtain⟨y,hy,rfl⟩:=ZtY.mp hx
   have:=(hbs y hy).1
   exact QS (by omega)),ZvG]
  walk_at "pd"
  rw[show ∀x y z:PV,pSet (.lst [x,y]) (.int 1) z=.ok (.lst [x,z]) from fun _ _ _=>rfl]
  walk_at "pd"
  rw[hk1]
  walk_at "pd"
  rw[Zaw,ZtG]
  walk_at "pd"
  generalize hw:UV _ _ _=W
  obtain⟨ρ',rfl,v,rfl⟩:=ZP hw (fun i ρ=>∃v,ρ=[.lst (ns.map PV.int),.int n,.int s,.lst (row.map PV.int),.lst (b.map PV.int),.lst (o.map PV.int),.lst (l.map PV.int),v,v8,.lst [.lst (b.map PV.int),.lst (o.map PV.int),.lst (l.map PV.int)],.tup [.str "barred",.lst ((QJ C i).map Vp)],.lst [.str "barred",.lst (C.map Vp)],.non]) ⟨_,by rw[ZjN]⟩ (by
   rintro i x ρ hx ⟨v,rfl⟩
   obtain⟨hi,rfl⟩:=J9 hx
   have hi2:i<C.length:=by omega
   have al:=JM C i
   have ag:=V5 (k:=i) hi2
   rw[if_neg (Zun i)] at ag
   have hqi:(C.getD i []).length<=1000:=by
    have:=(hbs (C.getD i []) (by rw[Zt8,Zt9 hi2];exact ZuU _)).1
    omega
   walk_at "pd"
   rw[Zfi (q:=Vp) (d:=[]) (by omega) (by omega)]
   walk_at "pd"
   rw[hk1]
   walk_at "pd"
   rw[Zfi (q:=Vp) (d:=[]) (by omega) (by omega)]
   simp only[ZuG,ZtZ]
   rw[ag,show Vp (C.getD i [])=.lst ((C.getD i []).map PV.int) from rfl]
   walk_at "pd"
   rw[Zfk,ZkF (by omega) (by rw[ag];omega),ZjM hi2]
   walk_at "pd"
   exact JG ⟨_,rfl⟩)
  walk_at "pd"
  rw[Zfk]
  simp only[pGo]
  rw[Uc (by rw[ZtG,JM];omega)]
  walk_at "pd"
  rw[hx0,hx1,hx2]
  walk_at "pd"
  rw[Zon Wo,hv]
  walk_at "pd"
  rw[hk0,hk1]
  walk_at "pd"
  rw[Zdh (Zgh (w := "barred") (by rw[PyData.canLay0];decide +kernel) (ZaF _))]
  walk_at "pd"
  rw[hE]
  rfl
theorem Ztz {ns:List Int} (h:ns.length<=63):ZqZ.fn [.lst (ns.map PV.int)]=.ok (.bl true):=Pm.fn_eq ZqZ ns h (fun _ _=>rfl)
noncomputable def ZeH (K:W.Frag):Sp:=spF K 1 .P W0 ZqZ.fn
theorem ZkN {l:PySem.W.OpenLaw} (T:Txt K mg) {fa:Addr} (hmg:mg "law"=some (.ref fa)):∃fd:FuncData,(∀(s:Shared) (u:Value),BindsTo s fd ⟨[u],[]⟩ [("script",u)]) /\
  ∀base:Heap,K.In base->base.Ns mainGlobals mg->JB l.prog w K mg base CX0 7 fa fd ["script"] (ZeH K):=by
 obtain⟨f,fd,F,hm⟩:=T.Zt7
 rw[hmg] at hm
 cases hm
 refine⟨fd,fun s u=>?_,fun base _ _=>Zt5 T F⟩
 obtain⟨oc,od,kV,doc,pm,an,cdv,ct,osl,rfl,lk,hcd⟩:=F.ex
 exact .of_eq (Zt6 kV doc pm an cdv ct [u] rfl)
theorem Zf7 {H:Hp}{a:Addr}{ns:List Int} (hl:ns.length<=63) (hO:Zl7 H) (hS:SqL K H a (ns.map V.int)):ZeH K [.ref a] H (fun v _=>v=.bl true) fun _ _ _=>False:=
 Zee (Pm.fn_eq ZqZ ns hl fun _ _=>rfl) hS
end
theorem Zkk {K:W.Frag}{h:Heap}{mg:Str->Option Value}{Zpx Zpw Zrt ZqJ Zrr ZqM ZqN Zrp ZoZ Zom Zqj Zrq ZpG ZqH Zsg Zpv ZpH Zpu Zo9 ZqI ZrD Zqh Zqi ZqG ZoY ZrE Zqg ZqK ZpI ZqL Zrs Zqk Zt3:Addr} (X:K.In h) (G:h.Ns mainGlobals mg)
  {od__law_cell_at an__law_cell_at:Option Addr}{sl__law_cell_at:Array (Option Value)}{oc__law_cell_at kV__law_cell_at dc__law_cell_at Znz cd__law_cell_at ct__law_cell_at:Value}
  {od__law_stirred an__law_stirred:Option Addr}{sl__law_stirred:Array (Option Value)}{oc__law_stirred kV__law_stirred dc__law_stirred Zny cd__law_stirred ct__law_stirred:Value}
  {od__law_few an__law_few:Option Addr}{sl__law_few:Array (Option Value)}{oc__law_few kV__law_few dc__law_few Zoj cd__law_few ct__law_few:Value}
  {od__law_sums an__law_sums:Option Addr}{sl__law_sums:Array (Option Value)}{oc__law_sums kV__law_sums dc__law_sums ZnQ cd__law_sums ct__law_sums:Value}
  {od__law_row an__law_row:Option Addr}{sl__law_row:Array (Option Value)}{oc__law_row kV__law_row dc__law_row Zoh cd__law_row ct__law_row:Value}
  {od__law_laid an__law_laid:Option Addr}{sl__law_laid:Array (Option Value)}{oc__law_laid kV__law_laid dc__law_laid ZnS cd__law_laid ct__law_laid:Value}
  {od__law_bars an__law_bars:Option Addr}{sl__law_bars:Array (Option Value)}{oc__law_bars kV__law_bars dc__law_bars ZnT cd__law_bars ct__law_bars:Value}
  {od_is_whole an_is_whole:Option Addr}{sl_is_whole:Array (Option Value)}{oc_is_whole kV_is_whole dc_is_whole Zov cd_is_whole ct_is_whole:Value}
  {od_is_whole_from an_is_whole_from:Option Addr}{sl_is_whole_from:Array (Option Value)}{oc_is_whole_from kV_is_whole_from dc_is_whole_from Zns cd_is_whole_from ct_is_whole_from:Value}
  {od_is_list_from_nought an_is_list_from_nought:Option Addr}{sl_is_list_from_nought:Array (Option Value)}{oc_is_list_from_nought kV_is_list_from_nought dc_is_list_from_nought Znl cd_is_list_from_nought ct_is_list_from_nought:Value}
  {od_most_seeds an_most_seeds:Option Addr}{sl_most_seeds:Array (Option Value)}{oc_most_seeds kV_most_seeds dc_most_seeds ZnV cd_most_seeds ct_most_seeds:Value}
  {od_is_board an_is_board:Option Addr}{sl_is_board:Array (Option Value)}{oc_is_board kV_is_board dc_is_board ZnI cd_is_board ct_is_board:Value}
  {od_check_board an_check_board:Option Addr}{sl_check_board:Array (Option Value)}{oc_check_board kV_check_board dc_check_board Zn7 cd_check_board ct_check_board:Value}
  {od_is_rising an_is_rising:Option Addr}{sl_is_rising:Array (Option Value)}{oc_is_rising kV_is_rising dc_is_rising Zn6 cd_is_rising ct_is_rising:Value}
  {od_is_pit an_is_pit:Option Addr}{sl_is_pit:Array (Option Value)}{oc_is_pit kV_is_pit dc_is_pit Zos cd_is_pit ct_is_pit:Value}
  {od_check_barred an_check_barred:Option Addr}{sl_check_barred:Array (Option Value)}{oc_check_barred kV_check_barred dc_check_barred Znx cd_check_barred ct_check_barred:Value}
  {od_check_alike an_check_alike:Option Addr}{sl_check_alike:Array (Option Value)}{oc_check_alike kV_check_alike dc_check_alike Zn8 cd_check_alike ct_check_alike:Value}
  {od_count_boards an_count_boards:Option Addr}{sl_count_boards:Array (Option Value)}{oc_count_boards kV_count_boards dc_count_boards Znq cd_count_boards ct_count_boards:Value}
  {od_check_few_boards an_check_few_boards:Option Addr}{sl_check_few_boards:Array (Option Value)}{oc_check_few_boards kV_check_few_boards dc_check_few_boards Znn cd_check_few_boards ct_check_few_boards:Value}
  {od_free_pits an_free_pits:Option Addr}{sl_free_pits:Array (Option Value)}{oc_free_pits kV_free_pits dc_free_pits ZnP cd_free_pits ct_free_pits:Value}
  {od_sow_pit an_sow_pit:Option Addr}{sl_sow_pit:Array (Option Value)}{oc_sow_pit kV_sow_pit dc_sow_pit Zo4 cd_sow_pit ct_sow_pit:Value}
  {od_sowings_of an_sowings_of:Option Addr}{sl_sowings_of:Array (Option Value)}{oc_sowings_of kV_sowings_of dc_sowings_of ZnF cd_sowings_of ct_sowings_of:Value}
  {od_next_level an_next_level:Option Addr}{sl_next_level:Array (Option Value)}{oc_next_level kV_next_level dc_next_level ZnG cd_next_level ct_next_level:Value}
  {od_walk_from an_walk_from:Option Addr}{sl_walk_from:Array (Option Value)}{oc_walk_from kV_walk_from dc_walk_from Zn5 cd_walk_from ct_walk_from:Value}
  {od_rising_boards an_rising_boards:Option Addr}{sl_rising_boards:Array (Option Value)}{oc_rising_boards kV_rising_boards dc_rising_boards Zno cd_rising_boards ct_rising_boards:Value}
  {od_plan_to an_plan_to:Option Addr}{sl_plan_to:Array (Option Value)}{oc_plan_to kV_plan_to dc_plan_to ZnX cd_plan_to ct_plan_to:Value}
  {od_way_or_bar an_way_or_bar:Option Addr}{sl_way_or_bar:Array (Option Value)}{oc_way_or_bar kV_way_or_bar dc_way_or_bar ZnE cd_way_or_bar ct_way_or_bar:Value}
  {od__law_sown an__law_sown:Option Addr}{sl__law_sown:Array (Option Value)}{oc__law_sown kV__law_sown dc__law_sown ZnR cd__law_sown ct__law_sown:Value}
  {od__law_behind an__law_behind:Option Addr}{sl__law_behind:Array (Option Value)}{oc__law_behind kV__law_behind dc__law_behind Zn9 cd__law_behind ct__law_behind:Value}
  {od__law_shut an__law_shut:Option Addr}{sl__law_shut:Array (Option Value)}{oc__law_shut kV__law_shut dc__law_shut Zog cd__law_shut ct__law_shut:Value}
  {od__law_led an__law_led:Option Addr}{sl__law_led:Array (Option Value)}{oc__law_led kV__law_led dc__law_led Zoi cd__law_led ct__law_led:Value}
  {od__law_right an__law_right:Option Addr}{sl__law_right:Array (Option Value)}{oc__law_right kV__law_right dc__law_right ZnW cd__law_right ct__law_right:Value}
  {od_law an_law:Option Addr}{sl_law:Array (Option Value)}{oc_law kV_law dc_law ZqZ cd_law ct_law:Value}
  (Zp2:PySem.W.nsIn K mainGlobals "_law_cell_at"=some (some (.ref Zpx))) (Zpp:K.lookup Zpx=some ⟨oc__law_cell_at,od__law_cell_at,.func (PySem.W.fnOf "_law_cell_at" "_law_cell_at" (Z0 Zn4) (Zu Zn4) (Zh Zn4) .none kV__law_cell_at dc__law_cell_at Znz an__law_cell_at cd__law_cell_at ct__law_cell_at),sl__law_cell_at⟩) (Znr:PySem.W.codeIn K cd__law_cell_at "_law_cell_at"=true) (Zpt:PySem.W.keepIn K (.ref Zpx)=true)
  (Zp1:PySem.W.nsIn K mainGlobals "_law_stirred"=some (some (.ref Zpw))) (Zpo:K.lookup Zpw=some ⟨oc__law_stirred,od__law_stirred,.func (PySem.W.fnOf "_law_stirred" "_law_stirred" (Z0 Zn3) (Zu Zn3) (Zh Zn3) .none kV__law_stirred dc__law_stirred Zny an__law_stirred cd__law_stirred ct__law_stirred),sl__law_stirred⟩) (Znt:PySem.W.codeIn K cd__law_stirred "_law_stirred"=true) (Zps:PySem.W.keepIn K (.ref Zpw)=true)
  (Zry:PySem.W.nsIn K mainGlobals "_law_few"=some (some (.ref Zrt))) (Zrj:K.lookup Zrt=some ⟨oc__law_few,od__law_few,.func (PySem.W.fnOf "_law_few" "_law_few" (Z0 Zo3) (Zu Zo3) (Zh Zo3) .none kV__law_few dc__law_few Zoj an__law_few cd__law_few ct__law_few),sl__law_few⟩) (Zp7:PySem.W.codeIn K cd__law_few "_law_few"=true) (Zro:PySem.W.keepIn K (.ref Zrt)=true)
  (ZqS:PySem.W.nsIn K mainGlobals "_law_sums"=some (some (.ref ZqJ))) (Zq2:K.lookup ZqJ=some ⟨oc__law_sums,od__law_sums,.func (PySem.W.fnOf "_law_sums" "_law_sums" (Z0 Zob) (Zu Zob) (Zh Zob) .none kV__law_sums dc__law_sums ZnQ an__law_sums cd__law_sums ct__law_sums),sl__law_sums⟩) (Zpd:PySem.W.codeIn K cd__law_sums "_law_sums"=true) (ZqA:PySem.W.keepIn K (.ref ZqJ)=true)
  (Zrw:PySem.W.nsIn K mainGlobals "_law_row"=some (some (.ref Zrr))) (Zrh:K.lookup Zrr=some ⟨oc__law_row,od__law_row,.func (PySem.W.fnOf "_law_row" "_law_row" (Z0 Zo1) (Zu Zo1) (Zh Zo1) .none kV__law_row dc__law_row Zoh an__law_row cd__law_row ct__law_row),sl__law_row⟩) (Zp5:PySem.W.codeIn K cd__law_row "_law_row"=true) (Zrm:PySem.W.keepIn K (.ref Zrr)=true)
  (ZqV:PySem.W.nsIn K mainGlobals "_law_laid"=some (some (.ref ZqM))) (Zq5:K.lookup ZqM=some ⟨oc__law_laid,od__law_laid,.func (PySem.W.fnOf "_law_laid" "_law_laid" (Z0 Zoe) (Zu Zoe) (Zh Zoe) .none kV__law_laid dc__law_laid ZnS an__law_laid cd__law_laid ct__law_laid),sl__law_laid⟩) (ZoG:PySem.W.codeIn K cd__law_laid "_law_laid"=true) (ZqD:PySem.W.keepIn K (.ref ZqM)=true)
  (ZqW:PySem.W.nsIn K mainGlobals "_law_bars"=some (some (.ref ZqN))) (Zq6:K.lookup ZqN=some ⟨oc__law_bars,od__law_bars,.func (PySem.W.fnOf "_law_bars" "_law_bars" (Z0 Zof) (Zu Zof) (Zh Zof) .none kV__law_bars dc__law_bars ZnT an__law_bars cd__law_bars ct__law_bars),sl__law_bars⟩) (Zpf:PySem.W.codeIn K cd__law_bars "_law_bars"=true) (ZqE:PySem.W.keepIn K (.ref ZqN)=true)
  (Zru:PySem.W.nsIn K mainGlobals "is_whole"=some (some (.ref Zrp))) (Zrf:K.lookup Zrp=some ⟨oc_is_whole,od_is_whole,.func (PySem.W.fnOf "is_whole" "is_whole" (Z0 Zoz) (Zu Zoz) (Zh Zoz) .none kV_is_whole dc_is_whole Zov an_is_whole cd_is_whole ct_is_whole),sl_is_whole⟩) (Zp3:PySem.W.codeIn K cd_is_whole "is_whole"=true) (Zrk:PySem.W.keepIn K (.ref Zrp)=true)
  (Zpi:PySem.W.nsIn K mainGlobals "is_whole_from"=some (some (.ref ZoZ))) (ZoU:K.lookup ZoZ=some ⟨oc_is_whole_from,od_is_whole_from,.func (PySem.W.fnOf "is_whole_from" "is_whole_from" (Z0 Znw) (Zu Znw) (Zh Znw) .none kV_is_whole_from dc_is_whole_from Zns an_is_whole_from cd_is_whole_from ct_is_whole_from),sl_is_whole_from⟩) (ZnJ:PySem.W.codeIn K cd_is_whole_from "is_whole_from"=true) (ZoW:PySem.W.keepIn K (.ref ZoZ)=true)
  (Zop:PySem.W.nsIn K mainGlobals "is_list_from_nought"=some (some (.ref Zom))) (Zok:K.lookup Zom=some ⟨oc_is_list_from_nought,od_is_list_from_nought,.func (PySem.W.fnOf "is_list_from_nought" "is_list_from_nought" (Z0 Znm) (Zu Znm) (Zh Znm) .none kV_is_list_from_nought dc_is_list_from_nought Znl an_is_list_from_nought cd_is_list_from_nought ct_is_list_from_nought),sl_is_list_from_nought⟩) (Zn0:PySem.W.codeIn K cd_is_list_from_nought "is_list_from_nought"=true) (Zol:PySem.W.keepIn K (.ref Zom)=true)
  (Zqs:PySem.W.nsIn K mainGlobals "most_seeds"=some (some (.ref Zqj))) (ZpZ:K.lookup Zqj=some ⟨oc_most_seeds,od_most_seeds,.func (PySem.W.fnOf "most_seeds" "most_seeds" (Z0 ZnN) (Zu ZnN) (Zh ZnN) .none kV_most_seeds dc_most_seeds ZnV an_most_seeds cd_most_seeds ct_most_seeds),sl_most_seeds⟩) (ZoQ:PySem.W.codeIn K cd_most_seeds "most_seeds"=true) (Zqe:PySem.W.keepIn K (.ref Zqj)=true)
  (Zrv:PySem.W.nsIn K mainGlobals "is_board"=some (some (.ref Zrq))) (Zrg:K.lookup Zrq=some ⟨oc_is_board,od_is_board,.func (PySem.W.fnOf "is_board" "is_board" (Z0 Zo0) (Zu Zo0) (Zh Zo0) .none kV_is_board dc_is_board ZnI an_is_board cd_is_board ct_is_board),sl_is_board⟩) (Zp4:PySem.W.codeIn K cd_is_board "is_board"=true) (Zrl:PySem.W.keepIn K (.ref Zrq)=true)
  (ZpJ:PySem.W.nsIn K mainGlobals "check_board"=some (some (.ref ZpG))) (ZpA:K.lookup ZpG=some ⟨oc_check_board,od_check_board,.func (PySem.W.fnOf "check_board" "check_board" (Z0 ZnB) (Zu ZnB) (Zh ZnB) .none kV_check_board dc_check_board Zn7 an_check_board cd_check_board ct_check_board),sl_check_board⟩) (Zoq:PySem.W.codeIn K cd_check_board "check_board"=true) (ZpD:PySem.W.keepIn K (.ref ZpG)=true)
  (ZqQ:PySem.W.nsIn K mainGlobals "is_rising"=some (some (.ref ZqH))) (Zq0:K.lookup ZqH=some ⟨oc_is_rising,od_is_rising,.func (PySem.W.fnOf "is_rising" "is_rising" (Z0 ZnZ) (Zu ZnZ) (Zh ZnZ) .none kV_is_rising dc_is_rising Zn6 an_is_rising cd_is_rising ct_is_rising),sl_is_rising⟩) (Zpb:PySem.W.codeIn K cd_is_rising "is_rising"=true) (Zq8:PySem.W.keepIn K (.ref ZqH)=true)
  (Zso:PySem.W.nsIn K mainGlobals "is_pit"=some (some (.ref Zsg))) (ZrZ:K.lookup Zsg=some ⟨oc_is_pit,od_is_pit,.func (PySem.W.fnOf "is_pit" "is_pit" (Z0 Zpk) (Zu Zpk) (Zh Zpk) .none kV_is_pit dc_is_pit Zos an_is_pit cd_is_pit ct_is_pit),sl_is_pit⟩) (Zrc:PySem.W.codeIn K cd_is_pit "is_pit"=true) (Zsa:PySem.W.keepIn K (.ref Zsg)=true)
  (Zp0:PySem.W.nsIn K mainGlobals "check_barred"=some (some (.ref Zpv))) (Zpn:K.lookup Zpv=some ⟨oc_check_barred,od_check_barred,.func (PySem.W.fnOf "check_barred" "check_barred" (Z0 Zn2) (Zu Zn2) (Zh Zn2) .none kV_check_barred dc_check_barred Znx an_check_barred cd_check_barred ct_check_barred),sl_check_barred⟩) (Zou:PySem.W.codeIn K cd_check_barred "check_barred"=true) (Zpr:PySem.W.keepIn K (.ref Zpv)=true)
  (ZpK:PySem.W.nsIn K mainGlobals "check_alike"=some (some (.ref ZpH))) (ZpB:K.lookup ZpH=some ⟨oc_check_alike,od_check_alike,.func (PySem.W.fnOf "check_alike" "check_alike" (Z0 ZnC) (Zu ZnC) (Zh ZnC) .none kV_check_alike dc_check_alike Zn8 an_check_alike cd_check_alike ct_check_alike),sl_check_alike⟩) (ZoA:PySem.W.codeIn K cd_check_alike "check_alike"=true) (ZpE:PySem.W.keepIn K (.ref ZpH)=true)
  (Zpz:PySem.W.nsIn K mainGlobals "count_boards"=some (some (.ref Zpu))) (Zpm:K.lookup Zpu=some ⟨oc_count_boards,od_count_boards,.func (PySem.W.fnOf "count_boards" "count_boards" (Z0 Zn1) (Zu Zn1) (Zh Zn1) .none kV_count_boards dc_count_boards Znq an_count_boards cd_count_boards ct_count_boards),sl_count_boards⟩) (Zot:PySem.W.codeIn K cd_count_boards "count_boards"=true) (Zpq:PySem.W.keepIn K (.ref Zpu)=true)
  (ZoC:PySem.W.nsIn K mainGlobals "check_few_boards"=some (some (.ref Zo9))) (Zo6:K.lookup Zo9=some ⟨oc_check_few_boards,od_check_few_boards,.func (PySem.W.fnOf "check_few_boards" "check_few_boards" (Z0 Znp) (Zu Znp) (Zh Znp) .none kV_check_few_boards dc_check_few_boards Znn an_check_few_boards cd_check_few_boards ct_check_few_boards),sl_check_few_boards⟩) (ZnH:PySem.W.codeIn K cd_check_few_boards "check_few_boards"=true) (Zo7:PySem.W.keepIn K (.ref Zo9)=true)
  (ZqR:PySem.W.nsIn K mainGlobals "free_pits"=some (some (.ref ZqI))) (Zq1:K.lookup ZqI=some ⟨oc_free_pits,od_free_pits,.func (PySem.W.fnOf "free_pits" "free_pits" (Z0 Zoa) (Zu Zoa) (Zh Zoa) .none kV_free_pits dc_free_pits ZnP an_free_pits cd_free_pits ct_free_pits),sl_free_pits⟩) (Zpc:PySem.W.codeIn K cd_free_pits "free_pits"=true) (Zq9:PySem.W.keepIn K (.ref ZqI)=true)
  (ZrJ:PySem.W.nsIn K mainGlobals "sow_pit"=some (some (.ref ZrD))) (Zr7:K.lookup ZrD=some ⟨oc_sow_pit,od_sow_pit,.func (PySem.W.fnOf "sow_pit" "sow_pit" (Z0 ZoM) (Zu ZoM) (Zh ZoM) .none kV_sow_pit dc_sow_pit Zo4 an_sow_pit cd_sow_pit ct_sow_pit),sl_sow_pit⟩) (Zqn:PySem.W.codeIn K cd_sow_pit "sow_pit"=true) (Zr9:PySem.W.keepIn K (.ref ZrD)=true)
  (Zqq:PySem.W.nsIn K mainGlobals "sowings_of"=some (some (.ref Zqh))) (ZpX:K.lookup Zqh=some ⟨oc_sowings_of,od_sowings_of,.func (PySem.W.fnOf "sowings_of" "sowings_of" (Z0 ZnL) (Zu ZnL) (Zh ZnL) .none kV_sowings_of dc_sowings_of ZnF an_sowings_of cd_sowings_of ct_sowings_of),sl_sowings_of⟩) (ZoO:PySem.W.codeIn K cd_sowings_of "sowings_of"=true) (Zqc:PySem.W.keepIn K (.ref Zqh)=true)
  (Zqr:PySem.W.nsIn K mainGlobals "next_level"=some (some (.ref Zqi))) (ZpY:K.lookup Zqi=some ⟨oc_next_level,od_next_level,.func (PySem.W.fnOf "next_level" "next_level" (Z0 ZnM) (Zu ZnM) (Zh ZnM) .none kV_next_level dc_next_level ZnG an_next_level cd_next_level ct_next_level),sl_next_level⟩) (ZoP:PySem.W.codeIn K cd_next_level "next_level"=true) (Zqd:PySem.W.keepIn K (.ref Zqi)=true)
  (ZqP:PySem.W.nsIn K mainGlobals "walk_from"=some (some (.ref ZqG))) (Zqz:K.lookup ZqG=some ⟨oc_walk_from,od_walk_from,.func (PySem.W.fnOf "walk_from" "walk_from" (Z0 ZnY) (Zu ZnY) (Zh ZnY) .none kV_walk_from dc_walk_from Zn5 an_walk_from cd_walk_from ct_walk_from),sl_walk_from⟩) (Zpa:PySem.W.codeIn K cd_walk_from "walk_from"=true) (Zq7:PySem.W.keepIn K (.ref ZqG)=true)
  (Zph:PySem.W.nsIn K mainGlobals "rising_boards"=some (some (.ref ZoY))) (ZoT:K.lookup ZoY=some ⟨oc_rising_boards,od_rising_boards,.func (PySem.W.fnOf "rising_boards" "rising_boards" (Z0 Znv) (Zu Znv) (Zh Znv) .none kV_rising_boards dc_rising_boards Zno an_rising_boards cd_rising_boards ct_rising_boards),sl_rising_boards⟩) (Zoo:PySem.W.codeIn K cd_rising_boards "rising_boards"=true) (ZoV:PySem.W.keepIn K (.ref ZoY)=true)
  (ZrK:PySem.W.nsIn K mainGlobals "plan_to"=some (some (.ref ZrE))) (Zr8:K.lookup ZrE=some ⟨oc_plan_to,od_plan_to,.func (PySem.W.fnOf "plan_to" "plan_to" (Z0 ZoN) (Zu ZoN) (Zh ZoN) .none kV_plan_to dc_plan_to ZnX an_plan_to cd_plan_to ct_plan_to),sl_plan_to⟩) (Zqo:PySem.W.codeIn K cd_plan_to "plan_to"=true) (ZrA:PySem.W.keepIn K (.ref ZrE)=true)
  (Zqp:PySem.W.nsIn K mainGlobals "way_or_bar"=some (some (.ref Zqg))) (ZpW:K.lookup Zqg=some ⟨oc_way_or_bar,od_way_or_bar,.func (PySem.W.fnOf "way_or_bar" "way_or_bar" (Z0 ZnK) (Zu ZnK) (Zh ZnK) .none kV_way_or_bar dc_way_or_bar ZnE an_way_or_bar cd_way_or_bar ct_way_or_bar),sl_way_or_bar⟩) (Zon:PySem.W.codeIn K cd_way_or_bar "way_or_bar"=true) (Zqb:PySem.W.keepIn K (.ref Zqg)=true)
  (ZqT:PySem.W.nsIn K mainGlobals "_law_sown"=some (some (.ref ZqK))) (Zq3:K.lookup ZqK=some ⟨oc__law_sown,od__law_sown,.func (PySem.W.fnOf "_law_sown" "_law_sown" (Z0 Zoc) (Zu Zoc) (Zh Zoc) .none kV__law_sown dc__law_sown ZnR an__law_sown cd__law_sown ct__law_sown),sl__law_sown⟩) (ZoF:PySem.W.codeIn K cd__law_sown "_law_sown"=true) (ZqB:PySem.W.keepIn K (.ref ZqK)=true)
  (ZpL:PySem.W.nsIn K mainGlobals "_law_behind"=some (some (.ref ZpI))) (ZpC:K.lookup ZpI=some ⟨oc__law_behind,od__law_behind,.func (PySem.W.fnOf "_law_behind" "_law_behind" (Z0 ZnD) (Zu ZnD) (Zh ZnD) .none kV__law_behind dc__law_behind Zn9 an__law_behind cd__law_behind ct__law_behind),sl__law_behind⟩) (Zor:PySem.W.codeIn K cd__law_behind "_law_behind"=true) (ZpF:PySem.W.keepIn K (.ref ZpI)=true)
  (ZqU:PySem.W.nsIn K mainGlobals "_law_shut"=some (some (.ref ZqL))) (Zq4:K.lookup ZqL=some ⟨oc__law_shut,od__law_shut,.func (PySem.W.fnOf "_law_shut" "_law_shut" (Z0 Zod) (Zu Zod) (Zh Zod) .none kV__law_shut dc__law_shut Zog an__law_shut cd__law_shut ct__law_shut),sl__law_shut⟩) (Zpe:PySem.W.codeIn K cd__law_shut "_law_shut"=true) (ZqC:PySem.W.keepIn K (.ref ZqL)=true)
  (Zrx:PySem.W.nsIn K mainGlobals "_law_led"=some (some (.ref Zrs))) (Zri:K.lookup Zrs=some ⟨oc__law_led,od__law_led,.func (PySem.W.fnOf "_law_led" "_law_led" (Z0 Zo2) (Zu Zo2) (Zh Zo2) .none kV__law_led dc__law_led Zoi an__law_led cd__law_led ct__law_led),sl__law_led⟩) (Zp6:PySem.W.codeIn K cd__law_led "_law_led"=true) (Zrn:PySem.W.keepIn K (.ref Zrs)=true)
  (Zqt:PySem.W.nsIn K mainGlobals "_law_right"=some (some (.ref Zqk))) (Zqa:K.lookup Zqk=some ⟨oc__law_right,od__law_right,.func (PySem.W.fnOf "_law_right" "_law_right" (Z0 ZnO) (Zu ZnO) (Zh ZnO) .none kV__law_right dc__law_right ZnW an__law_right cd__law_right ct__law_right),sl__law_right⟩) (ZoR:PySem.W.codeIn K cd__law_right "_law_right"=true) (Zqf:PySem.W.keepIn K (.ref Zqk)=true)
  (Zt4:PySem.W.nsIn K mainGlobals "law"=some (some (.ref Zt3))) (Zt1:K.lookup Zt3=some ⟨oc_law,od_law,.func (PySem.W.fnOf "law" "law" (Z0 Zsq) (Zu Zsq) (Zh Zsq) .none kV_law dc_law ZqZ an_law cd_law ct_law),sl_law⟩) (Ztz:PySem.W.codeIn K cd_law "law"=true) (Zt2:PySem.W.keepIn K (.ref Zt3)=true)
  {t_FEWEST_PITS:Tok} (a_FEWEST_PITS:PySem.W.nsIn K mainGlobals "FEWEST_PITS"=some (some (.int 2 t_FEWEST_PITS)))
  {t_MOST_BOARDS:Tok} (a_MOST_BOARDS:PySem.W.nsIn K mainGlobals "MOST_BOARDS"=some (some (.int 1000 t_MOST_BOARDS)))
  {t_MOST_PITS:Tok} (a_MOST_PITS:PySem.W.nsIn K mainGlobals "MOST_PITS"=some (some (.int 24 t_MOST_PITS)))
  (z_all:PySem.W.nsIn K mainGlobals "all"=some none)
  (z_bool:PySem.W.nsIn K mainGlobals "bool"=some none)
  (z_int:PySem.W.nsIn K mainGlobals "int"=some none)
  (z_isinstance:PySem.W.nsIn K mainGlobals "isinstance"=some none)
  (z_len:PySem.W.nsIn K mainGlobals "len"=some none)
  (z_list:PySem.W.nsIn K mainGlobals "list"=some none)
  (z_max:PySem.W.nsIn K mainGlobals "max"=some none)
  (z_min:PySem.W.nsIn K mainGlobals "min"=some none)
  (z_range:PySem.W.nsIn K mainGlobals "range"=some none)
  (z_sorted:PySem.W.nsIn K mainGlobals "sorted"=some none)
  (z_sum:PySem.W.nsIn K mainGlobals "sum"=some none)
  (z_tuple:PySem.W.nsIn K mainGlobals "tuple"=some none)
  (x_tab:Zmz K XN XS=true) (x_exc:ZiA K XR=true)
  :Txt K mg:=by
 refine⟨?_, ?_, ?_, ?_, ?_, ?_, ?_, ?_, ?_, ?_, ?_, ?_, ?_, ?_, ?_, ?_, ?_, ?_, ?_, ?_, ?_, ?_, ?_, ?_, ?_, ?_, ?_, ?_, ?_, ?_, ?_, ?_, ?_, ?_, ?_, ?_, ?_, ?_, ?_, ?_, ?_, ?_, ?_, ?_, ?_, ?_, ?_, ?_,x_tab,x_exc,fun n C e=>PySem.W.mg_of X G e⟩
 ·exact⟨_,_,ZN (st:=Zn4) Zpp Znr Zpt,PySem.W.mg_of X G Zp2⟩
 ·exact⟨_,_,ZN (st:=Zn3) Zpo Znt Zps,PySem.W.mg_of X G Zp1⟩
 ·exact⟨_,_,ZN (st:=Zo3) Zrj Zp7 Zro,PySem.W.mg_of X G Zry⟩
 ·exact⟨_,_,ZN (st:=Zob) Zq2 Zpd ZqA,PySem.W.mg_of X G ZqS⟩
 ·exact⟨_,_,ZN (st:=Zo1) Zrh Zp5 Zrm,PySem.W.mg_of X G Zrw⟩
 ·exact⟨_,_,ZN (st:=Zoe) Zq5 ZoG ZqD,PySem.W.mg_of X G ZqV⟩
 ·exact⟨_,_,ZN (st:=Zof) Zq6 Zpf ZqE,PySem.W.mg_of X G ZqW⟩
 ·exact⟨_,_,ZN (st:=Zoz) Zrf Zp3 Zrk,PySem.W.mg_of X G Zru⟩
 ·exact⟨_,_,ZN (st:=Znw) ZoU ZnJ ZoW,PySem.W.mg_of X G Zpi⟩
 ·exact⟨_,_,ZN (st:=Znm) Zok Zn0 Zol,PySem.W.mg_of X G Zop⟩
 ·exact⟨_,_,ZN (st:=ZnN) ZpZ ZoQ Zqe,PySem.W.mg_of X G Zqs⟩
 ·exact⟨_,_,ZN (st:=Zo0) Zrg Zp4 Zrl,PySem.W.mg_of X G Zrv⟩
 ·exact⟨_,_,ZN (st:=ZnB) ZpA Zoq ZpD,PySem.W.mg_of X G ZpJ⟩
 ·exact⟨_,_,ZN (st:=ZnZ) Zq0 Zpb Zq8,PySem.W.mg_of X G ZqQ⟩
 ·exact⟨_,_,ZN (st:=Zpk) ZrZ Zrc Zsa,PySem.W.mg_of X G Zso⟩
 ·exact⟨_,_,ZN (st:=Zn2) Zpn Zou Zpr,PySem.W.mg_of X G Zp0⟩
 ·exact⟨_,_,ZN (st:=ZnC) ZpB ZoA ZpE,PySem.W.mg_of X G ZpK⟩
 ·exact⟨_,_,ZN (st:=Zn1) Zpm Zot Zpq,PySem.W.mg_of X G Zpz⟩
 ·exact⟨_,_,ZN (st:=Znp) Zo6 ZnH Zo7,PySem.W.mg_of X G ZoC⟩
 ·exact⟨_,_,ZN (st:=Zoa) Zq1 Zpc Zq9,PySem.W.mg_of X G ZqR⟩
 ·exact⟨_,_,ZN (st:=ZoM) Zr7 Zqn Zr9,PySem.W.mg_of X G ZrJ⟩
 ·exact⟨_,_,ZN (st:=ZnL) ZpX ZoO Zqc,PySem.W.mg_of X G Zqq⟩
 ·exact⟨_,_,ZN (st:=ZnM) ZpY ZoP Zqd,PySem.W.mg_of X G Zqr⟩
 ·exact⟨_,_,ZN (st:=ZnY) Zqz Zpa Zq7,PySem.W.mg_of X G ZqP⟩
 ·exact⟨_,_,ZN (st:=Znv) ZoT Zoo ZoV,PySem.W.mg_of X G Zph⟩
 ·exact⟨_,_,ZN (st:=ZoN) Zr8 Zqo ZrA,PySem.W.mg_of X G ZrK⟩
 ·exact⟨_,_,ZN (st:=ZnK) ZpW Zon Zqb,PySem.W.mg_of X G Zqp⟩
 ·exact⟨_,_,ZN (st:=Zoc) Zq3 ZoF ZqB,PySem.W.mg_of X G ZqT⟩
 ·exact⟨_,_,ZN (st:=ZnD) ZpC Zor ZpF,PySem.W.mg_of X G ZpL⟩
 ·exact⟨_,_,ZN (st:=Zod) Zq4 Zpe ZqC,PySem.W.mg_of X G ZqU⟩
 ·exact⟨_,_,ZN (st:=Zo2) Zri Zp6 Zrn,PySem.W.mg_of X G Zrx⟩
 ·exact⟨_,_,ZN (st:=ZnO) Zqa ZoR Zqf,PySem.W.mg_of X G Zqt⟩
 ·exact⟨_,_,ZN (st:=Zsq) Zt1 Ztz Zt2,PySem.W.mg_of X G Zt4⟩
 ·exact⟨_,PySem.W.mg_of X G a_FEWEST_PITS⟩
 ·exact⟨_,PySem.W.mg_of X G a_MOST_BOARDS⟩
 ·exact⟨_,PySem.W.mg_of X G a_MOST_PITS⟩
 ·exact PySem.W.mg_none_of X G z_all
 ·exact PySem.W.mg_none_of X G z_bool
 ·exact PySem.W.mg_none_of X G z_int
 ·exact PySem.W.mg_none_of X G z_isinstance
 ·exact PySem.W.mg_none_of X G z_len
 ·exact PySem.W.mg_none_of X G z_list
 ·exact PySem.W.mg_none_of X G z_max
 ·exact PySem.W.mg_none_of X G z_min
 ·exact PySem.W.mg_none_of X G z_range
 ·exact PySem.W.mg_none_of X G z_sorted
 ·exact PySem.W.mg_none_of X G z_sum
 ·exact PySem.W.mg_none_of X G z_tuple
end My
namespace PySem.W.Fast
noncomputable def tw15932981800008261728:=()
noncomputable def tw3304959149044187264:=()
noncomputable def tw4984285433825674368:=()
noncomputable def tw8662097696270872768:=()
noncomputable def tw14521260706596176160:=()
noncomputable def tw14232372445000766144:=()
noncomputable def tw14962721367653373632:=()
noncomputable def tw6061556550975142624:=()
noncomputable def tw3307459879455719232:=()
noncomputable def tw5292604177755116384:=()
noncomputable def tw9677373074125917088:=()
noncomputable def tw13298348366823960544:=()
noncomputable def tw493850458730669089:=()
noncomputable def tw13960601037003082817:=()
noncomputable def tw8720642327692165249:=()
noncomputable def tw8159588591490033857:=()
noncomputable def tw1054090169460485569:=()
noncomputable def tw5488588268193237537:=()
noncomputable def tw11273359856410982017:=()
noncomputable def tw13193899692739472033:=()
noncomputable def tw5694216182709971681:=()
noncomputable def tw12690810030914457441:=()
noncomputable def tw13359035011792393153:=()
noncomputable def tw5536841166939236418:=()
noncomputable def tw6880624718508899394:=()
noncomputable def tw7650239444227100770:=()
noncomputable def tw11793260063971641634:=()
noncomputable def tw10808902771905849634:=()
noncomputable def tw3924068328836810146:=()
noncomputable def tw12757447177746048514:=()
noncomputable def tw6216069271469557282:=()
noncomputable def tw2957494834500686434:=()
noncomputable def tw9938896890734340706:=()
noncomputable def tw16931364969610040930:=()
noncomputable def tw18399865148494139074:=()
noncomputable def tw5067989112141350594:=()
noncomputable def tw3520303091193052898:=()
noncomputable def tw9120003386361617250:=()
noncomputable def tw9851547490965307298:=()
noncomputable def tw12677271798305649570:=()
noncomputable def tw15383939677284950978:=()
noncomputable def tw10561964275585587138:=()
noncomputable def tw702539065813994691:=()
noncomputable def tw1867999273990978947:=()
noncomputable def tw585276210487790019:=()
noncomputable def tw873045152141953507:=()
noncomputable def tw14290876805425721987:=()
noncomputable def tw11811959246123833027:=()
noncomputable def tw15473044169507855107:=()
noncomputable def tw5410758775122667299:=()
noncomputable def tw5838461817676607299:=()
noncomputable def tw641845734754178148:=()
noncomputable def tw11835735626099358276:=()
noncomputable def tw16701829169721151236:=()
noncomputable def tw4760548414399685157:=()
noncomputable def tw4106554934095932197:=()
noncomputable def tw5637962407314858949:=()
noncomputable def tw4185669185802054854:=()
noncomputable def tw5149552433861378502:=()
noncomputable def tw10138915218419659302:=()
noncomputable def tw6251423471266827014:=()
noncomputable def tw8993460265793375271:=()
noncomputable def tw4026941039853424711:=()
noncomputable def tw11162187700611426407:=()
noncomputable def tw18166400282632008839:=()
noncomputable def tw2432894479198501127:=()
noncomputable def tw17865235744397462855:=()
noncomputable def tw12749514497571932551:=()
noncomputable def tw15856593272741578151:=()
noncomputable def tw6224708548720968167:=()
noncomputable def tw1038678060944410087:=()
noncomputable def tw883994592545115111:=()
noncomputable def tw2774141517107956744:=()
noncomputable def tw5687423699880073512:=()
noncomputable def tw12063979256853496168:=()
noncomputable def tw9985314159899751816:=()
noncomputable def tw4839906007178018408:=()
noncomputable def tw3214377191928219624:=()
noncomputable def tw17436657728059221001:=()
noncomputable def tw17846366419790182569:=()
noncomputable def tw10434243300397563081:=()
noncomputable def tw10108506510190216745:=()
noncomputable def tw4478647894566705865:=()
noncomputable def tw11708557852570691305:=()
noncomputable def tw2660812684142548266:=()
noncomputable def tw11342377709642243562:=()
noncomputable def tw4887423519046453930:=()
noncomputable def tw4369613305506924426:=()
noncomputable def tw2755043061522099146:=()
noncomputable def tw5903014771508433898:=()
noncomputable def tw4530110153991939115:=()
noncomputable def tw13257076299336821899:=()
noncomputable def tw11316319351790969035:=()
noncomputable def tw10247783327144744331:=()
noncomputable def tw15731582855372994987:=()
noncomputable def tw12796494128859850315:=()
noncomputable def tw14303071235404527403:=()
noncomputable def tw9473431107687552843:=()
noncomputable def tw14523290427646244715:=()
noncomputable def tw11815692247965632427:=()
noncomputable def tw13447165661772302283:=()
noncomputable def tw1123449447705532363:=()
noncomputable def tw15231995846901704780:=()
noncomputable def tw17640407678300232908:=()
noncomputable def tw18209586731401575660:=()
noncomputable def tw675908635454007628:=()
noncomputable def tw7470208380776678796:=()
noncomputable def tw5973015387079685740:=()
noncomputable def tw9038499084564954988:=()
noncomputable def tw18183475722708602893:=()
noncomputable def tw13537295062439895277:=()
noncomputable def tw5095463324673675533:=()
noncomputable def tw6308749919057456749:=()
noncomputable def tw14534281471890195309:=()
noncomputable def tw12087375338530221166:=()
noncomputable def tw837195300799160622:=()
noncomputable def tw10602049290246995023:=()
noncomputable def tw17803811473963349135:=()
noncomputable def tw17896178093072956623:=()
noncomputable def tw6405318041062180079:=()
noncomputable def tw6805353192041393583:=()
noncomputable def tw3221933701345613327:=()
noncomputable def tw13524802340667389455:=()
noncomputable def tw16810567592191823727:=()
noncomputable def tw16162436451885219088:=()
noncomputable def tw286263367384420624:=()
noncomputable def tw17419146713109267824:=()
noncomputable def tw12045604513206002064:=()
noncomputable def tw3316443573807300080:=()
noncomputable def tw969508762544925264:=()
noncomputable def tw11269842848250266352:=()
noncomputable def tw11411226684890048240:=()
noncomputable def tw2413911402173504400:=()
noncomputable def tw1968470866232953937:=()
noncomputable def tw17434395651395338609:=()
noncomputable def tw15845929516215530993:=()
noncomputable def tw7382727749496127153:=()
noncomputable def tw9423832406660153746:=()
noncomputable def tw10361652474981696050:=()
noncomputable def tw13320560506830776978:=()
noncomputable def tw1144401346080463570:=()
noncomputable def tw9011029898788379667:=()
noncomputable def tw4783932010821424243:=()
noncomputable def tw7812352350390302099:=()
noncomputable def tw6649482262641968563:=()
noncomputable def tw16970040284276760083:=()
noncomputable def tw14201233852594273939:=()
noncomputable def tw4566237190206225171:=()
noncomputable def tw7437720431871266611:=()
noncomputable def tw14193800037911342995:=()
noncomputable def tw13158338842303665043:=()
noncomputable def tw12376736857608450003:=()
noncomputable def tw2219004740234281971:=()
noncomputable def tw11275775751203631156:=()
noncomputable def tw9448088366364875988:=()
noncomputable def tw16426417502965258484:=()
noncomputable def tw13271208684908705108:=()
noncomputable def tw2247238373560659316:=()
noncomputable def tw2075606039900847668:=()
noncomputable def tw5996557199736897236:=()
noncomputable def tw391140076903829236:=()
noncomputable def tw14961469628314967796:=()
noncomputable def tw12338666972255009652:=()
noncomputable def tw13396083287506771924:=()
noncomputable def tw556176383430119701:=()
noncomputable def tw2102514230460421461:=()
noncomputable def tw3171501870732518773:=()
noncomputable def tw8951531737188767125:=()
noncomputable def tw7281707942850011797:=()
noncomputable def tw7625302468516980373:=()
noncomputable def tw16663450031763630933:=()
noncomputable def tw5821216974853895093:=()
noncomputable def tw18306839516501443670:=()
noncomputable def tw6141011916575973462:=()
noncomputable def tw2511417241156237398:=()
noncomputable def tw3484118726361830518:=()
noncomputable def tw13457378450471530614:=()
noncomputable def tw5481904620251219094:=()
noncomputable def tw3041484635371967766:=()
noncomputable def tw9448053880028811606:=()
noncomputable def tw6641224926876718646:=()
noncomputable def tw7275792405971981910:=()
noncomputable def tw13759520013401176694:=()
noncomputable def tw2421663663949554390:=()
noncomputable def tw7327171117621769942:=()
noncomputable def tw904377648726841367:=()
noncomputable def tw3220762201658079351:=()
noncomputable def tw12994585858054758583:=()
noncomputable def tw7674214299383333207:=()
noncomputable def tw9496209762539072983:=()
noncomputable def tw3956041127269356247:=()
noncomputable def tw9168236195711368983:=()
noncomputable def tw3135884154584024983:=()
noncomputable def tw2085856495326261175:=()
noncomputable def tw18308012597554573688:=()
noncomputable def tw14443129844821289496:=()
noncomputable def tw6781147976643151416:=()
noncomputable def tw14792383758028327576:=()
noncomputable def tw2559012926838290457:=()
noncomputable def tw15521234481176153177:=()
noncomputable def tw16342662033466172569:=()
noncomputable def tw5282446249391195865:=()
noncomputable def tw10382481624989476729:=()
noncomputable def tw1330431075569700857:=()
noncomputable def tw1696062526553306266:=()
noncomputable def tw16041794017656613018:=()
noncomputable def tw4208036909379493050:=()
noncomputable def tw17828181850234634554:=()
noncomputable def tw14878521592607662426:=()
noncomputable def tw6953320574650742298:=()
noncomputable def tw13517474455248365498:=()
noncomputable def tw11648438504028671962:=()
noncomputable def tw7004910241310531546:=()
noncomputable def tw12858658880888816667:=()
noncomputable def tw11949017611267818555:=()
noncomputable def tw3197442674598731995:=()
noncomputable def tw6216817720543960475:=()
noncomputable def tw18302181016030124507:=()
noncomputable def tw10277885002435339771:=()
noncomputable def tw8106034168315767355:=()
noncomputable def tw8809828397685605019:=()
noncomputable def tw10797114731040787291:=()
noncomputable def tw4619305798553545659:=()
noncomputable def tw3978228784403832860:=()
noncomputable def tw3078653649598790748:=()
noncomputable def tw5409238399285615772:=()
noncomputable def tw4601823924966404316:=()
noncomputable def tw14594639713788590396:=()
noncomputable def tw10570741023331573212:=()
noncomputable def tw1084425876608405084:=()
noncomputable def tw1287048832204397212:=()
noncomputable def tw5087496301553823420:=()
noncomputable def tw11949863198895084252:=()
noncomputable def tw16855122858414067612:=()
noncomputable def tw8078269607104958396:=()
noncomputable def tw11347935546270182557:=()
noncomputable def tw10939014565483383037:=()
noncomputable def tw10760908019885083069:=()
noncomputable def tw7734689253475056061:=()
noncomputable def tw14901592171137872445:=()
noncomputable def tw336083570960810845:=()
noncomputable def tw8772501174060879869:=()
noncomputable def tw7001681421615822974:=()
noncomputable def tw15008843427378932894:=()
noncomputable def tw15346471278935458270:=()
noncomputable def tw12058507052654172638:=()
noncomputable def tw7788990191121461790:=()
noncomputable def tw493935941364498974:=()
noncomputable def tw567130806162257502:=()
noncomputable def tw3819339404025419807:=()
noncomputable def tw9206748322795837663:=()
noncomputable def tw12895852340085544511:=()
noncomputable def tw14888261373600409407:=()
noncomputable def tw14816942480818111455:=()
noncomputable def tw15200666233265830098:=()
noncomputable def tw3476627918504782731:=()
noncomputable def tw14048657731662918415:=()
noncomputable def tw12984783506408535153:=()
noncomputable def tw14964764899247528284:=()
noncomputable def tw2860519544540552570:=()
noncomputable def tw9896379465124345768:=()
noncomputable def tw14715297081430085463:=()
end PySem.W.Fast
open PySem PySem.W PyProof.Rows
set_option maxRecDepth 100000 in
set_option maxHeartbeats 0 in
theorem PySem.Challenge.cw_sowring_k26_whole_way_or_bar_holds : PySem.Challenge.rw_sowring_k26_whole_way_or_bar.Holds := by
 w_on;o_law;k_head;(case hw=>w_witness2)
 k_fill
 refine L2.ZgI (l:=PySem.Challenge.rw_sowring_k26_whole_way_or_bar) (n:=63) (k:=7) (x := "script") (CX:=L2.CX0) (sp:=My.ZeH) rfl (by decide) rfl ⟨rfl,by decide,by decide⟩ (fun w h Y=>by first|exact PySem.W.kIn_of Y|exact PySem.W.km_in_of Y) ?F ?S ?C
 case F =>
  intro w mg fa h KX G hmg
  have T:My.Txt (L2.KOf KX) mg:=by
   dsimp only[L2.KOf]
   refine' My.Zkk KX G ?Zp2 ?Zpp ?Znr ?Zpt ?Zp1 ?Zpo ?Znt ?Zps ?Zry ?Zrj ?Zp7 ?Zro ?ZqS ?Zq2 ?Zpd ?ZqA ?Zrw ?Zrh ?Zp5 ?Zrm ?ZqV ?Zq5 ?ZoG ?ZqD ?ZqW ?Zq6 ?Zpf ?ZqE ?Zru ?Zrf ?Zp3 ?Zrk ?Zpi ?ZoU ?ZnJ ?ZoW ?Zop ?Zok ?Zn0 ?Zol ?Zqs ?ZpZ ?ZoQ ?Zqe ?Zrv ?Zrg ?Zp4 ?Zrl ?ZpJ ?ZpA ?Zoq ?ZpD ?ZqQ ?Zq0 ?Zpb ?Zq8 ?Zso ?ZrZ ?Zrc ?Zsa ?Zp0 ?Zpn ?Zou ?Zpr ?ZpK ?ZpB ?ZoA ?ZpE ?Zpz ?Zpm ?Zot ?Zpq ?ZoC ?Zo6 ?ZnH ?Zo7 ?ZqR ?Zq1 ?Zpc ?Zq9 ?ZrJ ?Zr7 ?Zqn ?Zr9 ?Zqq ?ZpX ?ZoO ?Zqc ?Zqr ?ZpY ?ZoP ?Zqd ?ZqP ?Zqz ?Zpa ?Zq7 ?Zph ?ZoT ?Zoo ?ZoV ?ZrK ?Zr8 ?Zqo ?ZrA ?Zqp ?ZpW ?Zon ?Zqb ?ZqT ?Zq3 ?ZoF ?ZqB ?ZpL ?ZpC ?Zor ?ZpF ?ZqU ?Zq4 ?Zpe ?ZqC ?Zrx ?Zri ?Zp6 ?Zrn ?Zqt ?Zqa ?ZoR ?Zqf ?Zt4 ?Zt1 ?Ztz ?Zt2 ?a_FEWEST_PITS ?a_MOST_BOARDS ?a_MOST_PITS ?z_all ?z_bool ?z_int ?z_isinstance ?z_len ?z_list ?z_max ?z_min ?z_range ?z_sorted ?z_sum ?z_tuple ?x_tab ?x_exc
   (case Zp2=>k_is)
   (case Zpp=>k_is)
   (case Znr=>k_is)
   (case Zpt=>k_is)
   (case Zp1=>k_is)
   (case Zpo=>k_is)
   (case Znt=>k_is)
   (case Zps=>k_is)
   (case Zry=>k_is)
   (case Zrj=>k_is)
   (case Zp7=>k_is)
   (case Zro=>k_is)
   (case ZqS=>k_is)
   (case Zq2=>k_is)
   (case Zpd=>k_is)
   (case ZqA=>k_is)
   (case Zrw=>k_is)
   (case Zrh=>k_is)
   (case Zp5=>k_is)
   (case Zrm=>k_is)
   (case ZqV=>k_is)
   (case Zq5=>k_is)
   (case ZoG=>k_is)
   (case ZqD=>k_is)
   (case ZqW=>k_is)
   (case Zq6=>k_is)
   (case Zpf=>k_is)
   (case ZqE=>k_is)
   (case Zru=>k_is)
   (case Zrf=>k_is)
   (case Zp3=>k_is)
   (case Zrk=>k_is)
   (case Zpi=>k_is)
   (case ZoU=>k_is)
   (case ZnJ=>k_is)
   (case ZoW=>k_is)
   (case Zop=>k_is)
   (case Zok=>k_is)
   (case Zn0=>k_is)
   (case Zol=>k_is)
   (case Zqs=>k_is)
   (case ZpZ=>k_is)
   (case ZoQ=>k_is)
   (case Zqe=>k_is)
   (case Zrv=>k_is)
   (case Zrg=>k_is)
   (case Zp4=>k_is)
   (case Zrl=>k_is)
   (case ZpJ=>k_is)
   (case ZpA=>k_is)
   (case Zoq=>k_is)
   (case ZpD=>k_is)
   (case ZqQ=>k_is)
   (case Zq0=>k_is)
   (case Zpb=>k_is)
   (case Zq8=>k_is)
   (case Zso=>k_is)
   (case ZrZ=>k_is)
   (case Zrc=>k_is)
   (case Zsa=>k_is)
   (case Zp0=>k_is)
   (case Zpn=>k_is)
   (case Zou=>k_is)
   (case Zpr=>k_is)
   (case ZpK=>k_is)
   (case ZpB=>k_is)
   (case ZoA=>k_is)
   (case ZpE=>k_is)
   (case Zpz=>k_is)
   (case Zpm=>k_is)
   (case Zot=>k_is)
   (case Zpq=>k_is)
   (case ZoC=>k_is)
   (case Zo6=>k_is)
   (case ZnH=>k_is)
   (case Zo7=>k_is)
   (case ZqR=>k_is)
   (case Zq1=>k_is)
   (case Zpc=>k_is)
   (case Zq9=>k_is)
   (case ZrJ=>k_is)
   (case Zr7=>k_is)
   (case Zqn=>k_is)
   (case Zr9=>k_is)
   (case Zqq=>k_is)
   (case ZpX=>k_is)
   (case ZoO=>k_is)
   (case Zqc=>k_is)
   (case Zqr=>k_is)
   (case ZpY=>k_is)
   (case ZoP=>k_is)
   (case Zqd=>k_is)
   (case ZqP=>k_is)
   (case Zqz=>k_is)
   (case Zpa=>k_is)
   (case Zq7=>k_is)
   (case Zph=>k_is)
   (case ZoT=>k_is)
   (case Zoo=>k_is)
   (case ZoV=>k_is)
   (case ZrK=>k_is)
   (case Zr8=>k_is)
   (case Zqo=>k_is)
   (case ZrA=>k_is)
   (case Zqp=>k_is)
   (case ZpW=>k_is)
   (case Zon=>k_is)
   (case Zqb=>k_is)
   (case ZqT=>k_is)
   (case Zq3=>k_is)
   (case ZoF=>k_is)
   (case ZqB=>k_is)
   (case ZpL=>k_is)
   (case ZpC=>k_is)
   (case Zor=>k_is)
   (case ZpF=>k_is)
   (case ZqU=>k_is)
   (case Zq4=>k_is)
   (case Zpe=>k_is)
   (case ZqC=>k_is)
   (case Zrx=>k_is)
   (case Zri=>k_is)
   (case Zp6=>k_is)
   (case Zrn=>k_is)
   (case Zqt=>k_is)
   (case Zqa=>k_is)
   (case ZoR=>k_is)
   (case Zqf=>k_is)
   (case Zt4=>k_is)
   (case Zt1=>k_is)
   (case Ztz=>k_is)
   (case Zt2=>k_is)
   (case a_FEWEST_PITS=>k_is)
   (case a_MOST_BOARDS=>k_is)
   (case a_MOST_PITS=>k_is)
   (case z_all=>k_is)
   (case z_bool=>k_is)
   (case z_int=>k_is)
   (case z_isinstance=>k_is)
   (case z_len=>k_is)
   (case z_list=>k_is)
   (case z_max=>k_is)
   (case z_min=>k_is)
   (case z_range=>k_is)
   (case z_sorted=>k_is)
   (case z_sum=>k_is)
   (case z_tuple=>k_is)
   (case x_tab=>kernel_rfl)
   (case x_exc=>kernel_rfl)
  exact My.ZkN T hmg
 case S=>exact fun K H a ns hl hO hS=>My.Zf7 hl hO hS
 case C=>exact fun _ _ _ _ z=>z
