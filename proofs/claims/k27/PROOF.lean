import PyProof.Rows.All
import Wide.All
import OpenK.AllK
import Wide.FinOn
import Lean
import PyProof.EqAt
import PyProof.EqKinds
import PyProof.TupleCall
import KE.KTryMore
import PyProof.NsDelKeeps
import PyProof.EnumStmt
import KE.KRevIter
import PyProof.ListNew
import KE.KIntText
import PyProof.ListRange
import PyProof.Rows.Range3
import PyProof.Rows.TupDisplay
import KE.KSortTup
import PyProof.Rows.SortRuns
import KE.KSortKey
import KE.KLam
import PyProof.DictWalks
import PyProof.DictTruth
import PySem.Challenge.RW_sowring_k27_whole_longest_play
open List renaming getD_eq_getElem?_getD->ZsG,getElem?_eq_getElem->ZsH,length_map->ZsI,getElem?_eq_some_iff->ZsJ,mem_of_getElem?->ZsK,mem_append_right->ZsL,getElem?_map->ZsM,mem_append->ZsO,mem_append_left->ZsQ,size_toArray->ZsR,append_assoc->ZsS,mem_cons->ZsT,getElem?_append_right->ZsU,mem_map->ZsV,map_cons->ZsW,getElem?_append_left->ZsX,length_take->ZsY,pairwise_append->ZsZ,map_map->Ztd,drop_eq_getElem_cons->Zte,mem_singleton->Ztf,take_append_drop->Ztg,getElem?_eq_none->Zti,getElem?_of_mem->Ztj,mem_cons_of_mem->Ztk,mem_of_mem_take->Ztl,take_of_length_le->Ztn,getElem?_take->Zto,getElem?_drop->Ztp,length_cons->Ztq,getElem?_set_self->Ztr,mem_range->Ztv,length_append->Ztw,map_append->Zty,getElem?_set_ne->Ztz,mem_of_mem_drop->Zt0,getElem?_eq_none_iff->Zt1,extract_eq_take_drop->Zt2,all_eq_true->Zt4,mem_cons_self->Zt5,getElem?_range->Zt6,mem_filter->Zt7,ext_getElem?->Zt9,map_congr_left->ZtA,lookup_cons->ZtB,drop_of_length_le->ZtC,pairwise_iff_getElem->ZtE,getElem?_zip_eq_some->ZtF,pairwise_map->ZtH,pairwise_cons->ZtJ,length_drop->ZtK,nodup_iff_pairwise_ne->ZtL,drop_eq_nil_of_le->ZtM,exists_mem_of_ne_nil->ZtN,nodup_cons->ZtO,nil_append->ZtP,perm_append_comm->ZtQ,take_length->ZtR,append_nil->ZtS,length_zip->ZtT,singleton_append->ZtU,length_filter_le->ZtV,getElem?_take_of_lt->ZtY,range_succ->ZtZ,map_nil->Zua,getElem?_cons_zero->Zuc,filter_eq_self->Zue,cons_append->Zuf,drop_zero->Zuh,map_inj_right->Zuj,filter_append->Zuk,contains_iff_mem->Zum,find?_cons->Zun,any_cons->Zuo,sum_cons->Zup,take_add_one->Zuq,foldl_append->Zur,exists_cons_of_ne_nil->Zut,getLastD_concat->Zuu,getElem_mem->Zux,mem_map_of_mem->Zuz,getElem?_replicate->Zu0,length_set->Zu1,length_nil->Zu3,zip_cons_cons->Zu4,getElem?_cons_succ->Zu5,pairwise_singleton->Zu8,length_replicate->ZuB,set_append_right->ZuC,getElem?_replicate_of_lt->ZuE,getElem_map->ZuF,not_mem_nil->ZuG,getElem?_mapIdx->ZuI,filterMap_cons->ZuK,set_cons_zero->ZuT,find?_eq_none->ZuU,take_succ->ZuW,take_sublist->ZuX,length_range->ZuZ,mem_reverse->Zva,of_mem_zip->Zvb,foldl_cons->Zvd
open Nat renaming le_refl->ZsN,lt_of_lt_of_le->Ztb,le_trans->Zth,ne_of_lt->Ztm,zero_le->Zts,zero_add->Zt3,lt_irrefl->ZtG,lt_of_le_of_lt->ZtI,le_of_lt->Zul,ne_of_gt->ZuA,lt_succ_self->ZuD,pow_le_pow_right->ZuH,pow_lt_pow_right->ZuJ,min_le_left->ZuL,min_eq_left->ZuM,le_succ->ZuN,pow_le_pow_left->ZuO,le_of_eq->ZuQ,sub_self->ZuR,lt_succ_of_lt->ZuY,add_zero->Zve,not_lt->Zvf
open Int renaming toNat_natCast->Zta,emod_eq_of_lt->Ztt,toNat_of_nonneg->Ztu,emod_lt_of_pos->Ztx,emod_nonneg->Zt8,zero_add->ZtW,le_refl->Zub,add_emod_right->Zu6,le_trans->Zvc
open Array renaming length_toList->ZsP,getElem?_toList->Ztc,toList_extract->ZtX,toList_append->Zud,toList_map->Zug,getElem?_eq_none->Zui,perm_iff_toList_perm->Zus,getElem?_eq_getElem->Zuv,toList_inj->Zuy,toList_push->Zu9,toList_setIfInBounds->ZuP,append_assoc->ZuV
open Option renaming map_eq_some_iff->ZtD,getD_some->Zuw,toList->Zu2,map_some->Zu7,isSome_some->ZuS
set_option Elab.async false
set_option genSizeOf false
set_option genSizeOfSpec false
set_option linter.all false
set_option maxRecDepth 100000
namespace L2
open PySem PySem.Spec PyProof.Rows
noncomputable abbrev Key:=Sum Int Str
noncomputable def Ze6:Key->Value->Bool
 |.inl k,v=>Value.isInt k v
 |.inr x,v=>Value.isStrOf x v
noncomputable def ZnL(w:World):Key->Int
 |.inl k=>hashInt k
 |.inr x=>hashStr w x
theorem ZZ:∀{k:Key}{v:Value},Ze6 k v=true->(∃i t,k=Sum.inl i/\v=Value.int i t)\/(∃x t,k=Sum.inr x/\v=Value.str x t)
 |.inl i,v,h=>by
  obtain⟨t,e⟩:=Value.isInt_shape (k:=i) (v:=v) h
  exact .inl ⟨i,t,rfl,e⟩
 |.inr x,v,h=>by
  obtain⟨t,e⟩:=Value.isStrOf_shape (x:=x) (v:=v) h
  exact .inr ⟨x,t,rfl,e⟩
theorem ZfR(i:Int)(t:Tok):Ze6 (.inl i) (.int i t)=true:=by simp[Ze6,Value.isInt]
theorem ZfQ(x:Str)(t:Tok):Ze6 (.inr x) (.str x t)=true:=by simp[Ze6,Value.isStrOf]
theorem ZlI(a b:Int):decide ((Sum.inl a:Key)=Sum.inl b)=(a==b):=by
 by_cases e:a=b
 ·subst e;simp
 ·have h:¬(Sum.inl a:Key)=Sum.inl b:=fun q=>e (Sum.inl.inj q)
  rw[decide_eq_false h]
  exact(beq_eq_false_iff_ne.mpr e).symm
theorem ZlF(a b:Str):decide ((Sum.inr a:Key)=Sum.inr b)=decide (a=b):=by
 by_cases e:a=b
 ·subst e;simp
 ·have h:¬(Sum.inr a:Key)=Sum.inr b:=fun q=>e (Sum.inr.inj q)
  rw[decide_eq_false h,decide_eq_false e]
theorem ZlH(a:Int)(b:Str):decide ((Sum.inl a:Key)=Sum.inr b)=false:=decide_eq_false (fun q=>nomatch q)
theorem ZlG(a:Str)(b:Int):decide ((Sum.inr a:Key)=Sum.inl b)=false:=decide_eq_false (fun q=>nomatch q)
noncomputable def Js(prog:Program)(w:World):PySem.KeyKind prog w Key where
 is:=Ze6
 hash:=ZnL w
 inj:=fun v a b ha hb=>by
  rcases ZZ ha with ⟨i,t,rfl,rfl⟩|⟨x,t,rfl,rfl⟩
  ·rcases ZZ hb with ⟨j,u,rfl,e⟩|⟨y,u,rfl,e⟩
   ·injection e with e1 _;rw[e1]
   ·exact nomatch e
  ·rcases ZZ hb with ⟨j,u,rfl,e⟩|⟨y,u,rfl,e⟩
   ·exact nomatch e
   ·injection e with e1 _;rw[e1]
 byValue:=fun k v h=>by
  rcases ZZ h with ⟨i,t,rfl,rfl⟩|⟨x,t,rfl,rfl⟩<;>rfl
 pyHash:=fun hv h=>by
  rcases ZZ hv with ⟨i,t,rfl,rfl⟩|⟨x,t,rfl,rfl⟩
  ·exact wpAny_pyHash_int h
  ·exact wpAny_pyHash_str h
 eqBool:=fun hu hv h=>by
  rcases ZZ hu with ⟨i,t,rfl,rfl⟩|⟨x,t,rfl,rfl⟩
  ·rcases ZZ hv with ⟨j,u,rfl,rfl⟩|⟨y,u,rfl,rfl⟩
   ·rw[ZlI] at h;exact wpAny_eqBool_int h
   ·rw[ZlH] at h;exact SeqAt.EqAt.int_str i t y u _ _ _ _ h
  ·rcases ZZ hv with ⟨j,u,rfl,rfl⟩|⟨y,u,rfl,rfl⟩
   ·rw[ZlG] at h;exact SeqAt.EqAt.str_int x t j u _ _ _ _ h
   ·rw[ZlF] at h;exact wpAny_eqBool_str h
 «strs»:=fun k x t v h=>by
  rcases ZZ h with ⟨i,u,rfl,e⟩|⟨y,u,rfl,e⟩
  ·exact nomatch e
  ·injection e with e1 _
   subst e1
   cases v<;>rfl
theorem ZcH(prog:Program)(w:World)(i:Int)(t:Tok):(Js prog w).is (.inl i) (.int i t)=true:=ZfR i t
theorem ZcG(prog:Program)(w:World)(x:Str)(t:Tok):(Js prog w).is (.inr x) (.str x t)=true:=ZfQ x t
inductive V where
 |non|bl (b:Bool)|int (i:Int)|str (x:Str)|byt (b:Array UInt8)|flt (b:UInt64)|ref (a:Addr)|ty (n:String)
 deriving DecidableEq
noncomputable def Jo:V->Value->Prop
 |.non,u=>u=Value.none
 |.bl b,u=>u=Value.bool b
 |.int i,u=>∃t,u=Value.int i t
 |.str x,u=>∃t,u=Value.str x t
 |.byt b,u=>∃t,u=Value.bytes b t
 |.flt b,u=>∃t,u=Value.float b t
 |.ref a,u=>u=Value.ref a
 |.ty n,u=>u=Value.type n
noncomputable abbrev ZY:List V->List Value->Prop:=Paired Jo
theorem ZY.length{xs:List V}{us:List Value}(r:ZY xs us):xs.length=us.length:=Paired.length r
theorem ZY.get:∀{xs:List V}{us:List Value}{i:Nat}{x:V},ZY xs us->xs[i]?=some x->∃u,us[i]?=some u/\Jo x u
 |_,_,_,_,.nil,e=>by simp at e
 |_,_,0,_,.cons r _,e=>by simp at e;subst e;exact⟨_,rfl,r⟩
 |_,_,i+1,x,.cons _ t,e=>by
  obtain⟨u,h1,h2⟩:=ZY.get (i:=i) (x:=x) t (by simpa using e)
  exact⟨u,by simpa using h1,h2⟩
theorem ZY.set{x:V}{u:Value}(r:Jo x u):∀{xs:List V}{us:List Value} (i:Nat),ZY xs us->ZY (xs.set i x) (us.set i u)
 |_,_,_,.nil=>.nil
 |_,_,0,.cons _ t=>.cons r t
 |_,_,i+1,.cons q t=>.cons q (ZY.set r i t)
theorem ZY.append:∀{xs ys:List V}{us ws:List Value},ZY xs us->ZY ys ws->ZY (xs++ys) (us++ws)
 |_,_,_,_,.nil,s=>s
 |_,_,_,_,.cons r t,s=>.cons r (ZY.append t s)
theorem ZY.take:∀{xs:List V}{us:List Value} (n:Nat),ZY xs us->ZY (xs.take n) (us.take n)
 |_,_,0,_=>.nil
 |_,_,_+1,.nil=>.nil
 |_,_,n+1,.cons r t=>.cons r (ZY.take n t)
theorem ZY.drop:∀{xs:List V}{us:List Value} (n:Nat),ZY xs us->ZY (xs.drop n) (us.drop n)
 |_,_,0,r=>r
 |_,_,_+1,.nil=>.nil
 |_,_,n+1,.cons _ t=>ZY.drop n t
noncomputable def ZgQ:Option V->Option Value->Prop
 |some v,some u=>Jo v u
 |none,none=>True
 |_,_=>False
def KV{κ:Type}:List (κ×V)->List (κ×Value)->Prop:=Paired fun(p:κ×V) (q:κ×Value)=>p.1=q.1/\Jo p.2 q.2
noncomputable def kV:Key->V
 |.inl i=>.int i
 |.inr x=>.str x
inductive HO where
  |lst (xs:List V)
  |tup (xs:List V)
  |dK (kvs:List (Key×V))|dT (kvs:List (List Key×V))
  |set (S:Int->Bool) (n:Nat)
  |ins (C dx:Addr) (fs:List (Str×V))
  |own (x:Addr)
  |xd (fs:List (Str×V))
  |met (f x:Addr)
  |rng (lo hi:Int)
  |frz (o:Obj) (u:HO)
  |tbl (ps:Array Value) (q:Str)
  |ext (φ:Heap->Prop)
noncomputable abbrev Hp:=Addr->Option HO
noncomputable def ZnT:HO->Prop
 |.tup _=>True
 |.frz _ (.own _)=>True
 |_=>False
noncomputable abbrev TF:={ u:HO // ZnT u }
def Zk8(q:Str)(o:Obj):Prop:=∃vs t,o.data=.fields vs/\vs[1]?=some (.str q t)
noncomputable def upd(H:Hp)(a:Addr)(o:HO):Hp:=fun b=>if b=a then some o else H b
theorem Z4{H:Hp}{a:Addr}{o:HO}:upd H a o a=some o:=by unfold upd;rw[if_pos rfl]
theorem Zy{H:Hp}{a b:Addr}{o:HO}(h:b≠a):upd H a o b=H b:=by unfold upd;rw[if_neg h]
theorem ZjT{H:Hp}{a b:Addr}{o u:HO}(h:H a=some o)(h':H b=some u)(d:o≠u):a≠b:=by
 intro e;subst e;rw[h] at h';exact d (Option.some.inj h')
theorem ZB{H:Hp}{a b:Addr}{o:HO}(h:H a=some o)(h':H b=none):a≠b:=by
 intro e;subst e;rw[h] at h';cases h'
section
variable (P:Program) (w:World)
noncomputable def JG(H:Hp)(h:Heap)(a:Addr):HO->Prop
 |.lst xs=>xs.length<=sizeLine/\∃(its:List Value) (n:Nat),ZY xs its/\h.get? a=some { cls:=.type "list",data:=.seq its.toArray n }
 |.tup xs=>xs.length<=sizeLine/\∃its:List Value,ZY xs its/\IsTup h a its.toArray
 |.dK kvs=>kvs.length<=sizeLine/\(a==sysModules)=false/\∃vs,KV kvs vs/\h.DictOf (Js P w) a vs
 |.dT kvs=>kvs.length<=sizeLine/\(a==sysModules)=false/\∃xs:List (List Key×Addr×Value),
   Paired (fun(p:List Key×V) (q:List Key×Addr×Value)=>p.1=q.1/\H q.2.1=some (.tup (p.1.map kV))/\Jo p.2 q.2.2) kvs xs /\
   ∃o es ep,h.get? a=some o/\o.ExactDict/\o.data=.dict es ep/\es.toList=xs.map (entryOfKey (tupleKind (Js P w)))/\(xs.map (·.1)).Nodup
 |.set S n=>h.SetOf (intKind P w) a S n
 |.ins C dx fs=>H dx=some (.own a)/\fs.length<=1000/\dx≠a/\h.get? a=some (PySem.W.instObj C dx) /\
   ∃mA,h.Ns1 dx mA/\(∀f,ZgQ (fs.lookup f) (mA f))/\PySem.Within mA (fs.map (·.1))
 |.own _=>∃o,h.get? a=some o
 |.xd fs=>∃mA,h.Ns1 a mA/\∀f,ZgQ (fs.lookup f) (mA f)
 |.rng lo hi=>∃t u v,h.get? a=some { cls:=.type "range",data:=.fields #[.int lo t,.int hi u,.int 1 v] }
 |.frz o u=>h.get? a=some o/\JG H h a u
 |.tbl ps q=>∃more:Array Value,h.get? a=some { cls:=.none,data:=.fields (ps++more) }/\TriplesOk (ps++more).toList/\∀pos c',codeAmong pos (ps++more).toList=some c'->∃c o,c'=.ref c/\H c=some (.frz o (.own c))/\Zk8 q o
 |.met f x=>h.get? a=some (PySem.W.methodObj (.ref f) (.ref x))
 |.ext φ=>φ h/\(∃o,h.get? a=some o)/\∀h1 h2:Heap,φ h1->(∀o,h1.get? a=some o->h2.get? a=some o)->φ h2
def HOk(H:Hp)(h:Heap):Prop:=∀a o,H a=some o->JG P w H h a o
end
section
variable {P:Program}{w:World}{H H':Hp}{h h':Heap}{a:Addr}{o:HO}
theorem JG.lt(x:JG P w H h a o):a<h.objs.size:=by
 cases o with
 |lst xs=>obtain⟨_,_,_,_,e⟩:=x;exact Heap.lt_size e
 |tup xs=>obtain⟨_,_,_,p⟩:=x;exact p.lt
 |dK kvs=>obtain⟨_,_,_,_,o,_,_,e,_⟩:=x;exact Heap.lt_size e
 |dT kvs=>obtain⟨_,_,_,_,o,_,_,e,_⟩:=x;exact Heap.lt_size e
 |set S n=>obtain⟨o,_,_,_,e,_⟩:=x;exact Heap.lt_size e
 |ins C dx fs=>obtain⟨_,_,_,e,_⟩:=x;exact Heap.lt_size e
 |own y=>obtain⟨_,e⟩:=x;exact Heap.lt_size e
 |xd fs=>obtain⟨_,⟨_,_,_,e,_⟩,_⟩:=x;exact Heap.lt_size e
 |rng lo hi=>obtain⟨_,_,_,e⟩:=x;exact Heap.lt_size e
 |frz ob u=>obtain⟨e,_⟩:=x;exact Heap.lt_size e
 |tbl ps q=>obtain⟨_,e,_⟩:=x;exact Heap.lt_size e
 |met f y=>exact Heap.lt_size (show h.get? a=some _ from x)
 |ext φ=>obtain⟨_,⟨_,e⟩,_⟩:=x;exact Heap.lt_size e
theorem Paired.mapP{α β:Type}{F G:α->β->Prop}:∀{l₁:List α}{l₂:List β},Paired F l₁ l₂->(∀a b,F a b->G a b)->Paired G l₁ l₂
 |_,_,.nil,_=>.nil
 |_,_,.cons r t,f=>.cons (f _ _ r) (Paired.mapP t f)
theorem JG.stay(x:JG P w H h a o)(k:∀b u,(b=a\/H b=some (.own a))->h.get? b=some u->h'.get? b=some u)(ho:∀b,H b=some (.own a)->H' b=some (.own a))(ht:∀b (xs:TF),H b=some xs.1->H' b=some xs.1):JG P w H' h' a o:=by
 induction o with
 |lst xs=>obtain⟨z,its,n,r,e⟩:=x;exact⟨z,its,n,r,k _ _ (.inl rfl) e⟩
 |tup xs=>obtain⟨z,its,r,ob,e,c⟩:=x;exact⟨z,its,r,ob,k _ _ (.inl rfl) e,c⟩
 |dK kvs=>obtain⟨z,y,vs,r,ob,es,ep,e,c⟩:=x;exact⟨z,y,vs,r,ob,es,ep,k _ _ (.inl rfl) e,c⟩
 |dT kvs =>
  obtain⟨z,y,xs,r,ob,es,ep,e,c⟩:=x
  exact⟨z,y,xs,Paired.mapP r fun p q z=>⟨z.1,ht _ ⟨.tup _,trivial⟩ z.2.1,z.2.2⟩,ob,es,ep,k _ _ (.inl rfl) e,c⟩
 |set S n=>obtain⟨ob,es,ep,t,e,c⟩:=x;exact⟨ob,es,ep,t,k _ _ (.inl rfl) e,c⟩
 |ins C dx fs =>
  obtain⟨d,z,ne,e,mA,⟨od,es,ep,e2,c⟩,r⟩:=x
  exact⟨ho _ d,z,ne,k _ _ (.inl rfl) e,mA,⟨od,es,ep,k _ _ (.inr d) e2,c⟩,r⟩
 |own y=>obtain⟨ob,e⟩:=x;exact⟨ob,k _ _ (.inl rfl) e⟩
 |xd fs=>obtain⟨mA,⟨od,es,ep,e,c⟩,r⟩:=x;exact⟨mA,⟨od,es,ep,k _ _ (.inl rfl) e,c⟩,r⟩
 |rng lo hi=>obtain⟨t,u,v,e⟩:=x;exact⟨t,u,v,k _ _ (.inl rfl) e⟩
 |frz ob u ih=>obtain⟨e,q⟩:=x;exact⟨k _ _ (.inl rfl) e,ih q⟩
 |tbl ps q =>
  obtain⟨more,e,t,cs⟩:=x
  refine⟨more,k a _ (.inl rfl) e,t,fun pos c' h1=>?_⟩
  obtain⟨c,o2,e1,e2,e3⟩:=cs pos c' h1
  exact⟨c,o2,e1,ht _ ⟨.frz _ (.own _),trivial⟩ e2,e3⟩
 |met f y =>
  have e:h.get? a=some (PySem.W.methodObj (.ref f) (.ref y)):=x
  show h'.get? a=some (PySem.W.methodObj (.ref f) (.ref y))
  exact k a _ (.inl rfl) e
 |ext φ=>obtain⟨p,⟨o,e⟩,st⟩:=x;exact⟨st _ _ p fun o q=>k _ _ (.inl rfl) q,⟨o,k _ _ (.inl rfl) e⟩,st⟩
theorem HOk.lt(x:HOk P w H h)(e:H a=some o):a<h.objs.size:=(x a o e).lt
theorem HOk.fresh(x:HOk P w H h)(e:h.objs.size<=a):H a=none:=by
 cases q:H a with
 |none=>rfl
 |some u=>exact absurd (Ztb (x.lt q) e) (ZtG _)
theorem HOk.kept(x:HOk P w H h)(k:∀b u,h.get? b=some u->h'.get? b=some u):HOk P w H h':=fun a o e =>
 (x a o e).stay (fun b u _ q=>k b u q) (fun _ q=>q) fun _ _ q=>q
theorem HOk.laid(x:HOk P w H h)(k:∀b u,h.get? b=some u->h'.get? b=some u)(hp:h.objs.size<=a)(new:JG P w (upd H a o) h' a o):HOk P w (upd H a o) h':=fun b u e=>by
 have hn:=x.fresh hp
 by_cases hb:b=a
 ·subst hb;rw[Z4] at e;cases e;exact new
 ·rw[Zy hb] at e
  exact(x b u e).stay (fun c v _ q=>k c v q) (fun c q=>by rw[Zy (ZB q hn)];exact q) fun c xs q=>by rw[Zy (ZB q hn)];exact q
end
def Rd(H:Hp)(a:Addr)(u:HO):Prop:=H a=some u\/∃o,H a=some (.frz o u)
theorem Rd.ok{P:Program}{w:World}{H:Hp}{h:Heap}{a:Addr}{u:HO}(r:Rd H a u)(x:HOk P w H h):JG P w H h a u:=by
 rcases r with r|⟨o,r⟩
 ·exact x a u r
 ·obtain⟨_,q⟩:=x a _ r
  exact q
noncomputable def Mut:Option HO->Prop
 |some (.lst _)=>True
 |some (.dK _)=>True
 |some (.dT _)=>True
 |some (.set _ _)=>True
 |some (.ins _ _ _)=>True
 |some (.ext _)=>True
 |_=>False
section
variable {P:Program}{w:World}{H:Hp}{h h':Heap}{x e:Addr}{o':HO}
theorem HOk.write(ok:HOk P w H h)(mu:Mut (H x))(he:e=x\/H e=some (.own x))(k:∀b u,b≠e->h.get? b=some u->h'.get? b=some u)(heo:∃u,h'.get? e=some u)(new:JG P w (upd H x o') h' x o'):HOk P w (upd H x o') h':=fun b u q=>by
 have nown:∀c y,H c=some (.own y)->c≠x:=fun c y r z=>by subst z;rw[r] at mu;exact mu
 have ntup:∀c (xs:TF),H c=some xs.1->c≠x:=fun c xs r z=>by
  subst z;rw[r] at mu
  obtain⟨u,hu⟩:=xs
  cases u<;>first|exact mu.elim|exact hu.elim
 by_cases hb:b=x
 ·subst hb;rw[Z4] at q;cases q;exact new
 ·rw[Zy hb] at q
  by_cases hbe:b=e
  ·have q':H b=some (.own x):=by
    rcases he with z|z
    ·exact absurd (hbe.trans z) hb
    ·rw[hbe];exact z
   rw[q] at q';cases q'
   obtain⟨v,hv⟩:=heo
   exact⟨v,by rw[hbe];exact hv⟩
  ·refine(ok b u q).stay (fun c v hc r=>k c v ?_ r) (fun c r=>by rw[Zy (nown c b r)];exact r) fun c xs r=>by rw[Zy (ntup c xs r)];exact r
   rcases hc with rfl|hc
   ·exact hbe
   ·rintro rfl
    rcases he with z|z
    ·exact nown c b hc z
    ·rw[hc] at z;cases z;exact hb rfl
end
structure Un(fs ex:List Addr)(H H':Hp)(h h':Heap):Prop where
 keep:∀b o,h.get? b=some o->H b=none->b ∉ fs->b ∉ ex->h'.get? b=some o
 slot:∀b o,h.get? b=some o->H b=none->b∈fs->b ∉ ex->∃sl,h'.get? b=some { o with slots:=sl }
 free:∀b o,h.get? b=some o->H b=none->b ∉ ex->H' b=none
 there:∀b o,h.get? b=some o->b ∉ ex->∃o',h'.get? b=some o'
 tups:∀b xs,H b=some (.tup xs)->H' b=some (.tup xs)
 frzs:∀b o u,H b=some (.frz o u)->H' b=some (.frz o u)
 tbls:∀b ps q,H b=some (.tbl ps q)->H' b=some (.tbl ps q)
section
variable {fs ex:List Addr}{H H1:Hp}{h h1 h':Heap}{a x e:Addr}{o:HO}
theorem Un.any(u:Un fs ex H H1 h h1){b:Addr}{ob:Obj}(q:h.get? b=some ob)(n:H b=none)(hx:b ∉ ex):∃sl,h1.get? b=some { ob with slots:=sl }:=by
 by_cases hb:b∈fs
 ·exact u.slot b ob q n hb hx
 ·exact⟨ob.slots,u.keep b ob q n hb hx⟩
theorem Un.kept(k:∀b u,h.get? b=some u->h'.get? b=some u):Un fs ex H H h h':=
 ⟨fun b ob q _ _ _=>k b ob q,fun b ob q _ _ _=>⟨ob.slots,k b ob q⟩,fun _ _ _ n _=>n,fun b ob q _=>⟨ob,k b ob q⟩,fun _ _ q=>q,fun _ _ _ q=>q,fun _ _ _ q=>q⟩
theorem Un.refl:Un fs ex H H h h:=Un.kept fun _ _ q=>q
theorem Un.laid(k:∀b u,h.get? b=some u->h'.get? b=some u)(hp:h.objs.size<=a)(hn:H a=none):Un fs ex H (upd H a o) h h' where
 keep:=fun b u q _ _ _=>k b u q
 slot:=fun b u q _ _ _=>⟨u.slots,k b u q⟩
 free:=fun b u q n _=>by rw[Zy (Ztm (Ztb (Heap.lt_size q) hp))];exact n
 there:=fun b u q _=>⟨u,k b u q⟩
 tups:=fun b xs q=>by rw[Zy (ZB q hn)];exact q
 frzs:=fun b u xs q=>by rw[Zy (ZB q hn)];exact q
 tbls:=fun b ps u q=>by rw[Zy (ZB q hn)];exact q
theorem Un.write(mu:Mut (H x))(he:e=x\/H e=some (.own x))(k:∀b u,b≠e->h.get? b=some u->h'.get? b=some u)(heo:∃u,h'.get? e=some u):Un fs ex H (upd H x o) h h':=by
 have hx:∀b,H b=none->b≠x:=fun b n z=>by subst z;rw[n] at mu;exact mu
 have hb:∀b,H b=none->b≠e:=fun b n z=>by
  subst z
  rcases he with r|r
  ·exact hx b n r
  ·rw[n] at r;cases r
 have hm:∀b u,H b=some u->¬Mut (some u)->b≠x:=fun b u q nm z=>by subst z;rw[q] at mu;exact nm mu
 refine⟨fun b u q n _ _=>k b u (hb b n) q,fun b u q n _ _=>⟨u.slots,k b u (hb b n) q⟩,fun b u q n _=>by rw[Zy (hx b n)];exact n,fun b u q _=>?_,
  fun b xs q=>by rw[Zy (hm b _ q fun z=>z)];exact q,fun b u xs q=>by rw[Zy (hm b _ q fun z=>z)];exact q,fun b ps u q=>by rw[Zy (hm b _ q fun z=>z)];exact q⟩
 by_cases hbe:b=e
 ·subst hbe;exact heo
 ·exact⟨u,k b u hbe q⟩
end
noncomputable def trk(h:Heap)(H:Hp):List Addr:=(List.range h.objs.size).filter fun a=>(H a).isSome
noncomputable def ZhQ(h:Heap)(H:Hp):Heap:=PySem.W.hideAll h (trk h H)
theorem ZfY(h:Heap)(H:Hp):(ZhQ h H).objs.size=h.objs.size:=PySem.W.hideAll_size _ _
theorem ZhP{h:Heap}{H:Hp}{b:Addr}{o:Obj}(e:h.get? b=some o)(n:H b=none):(ZhQ h H).get? b=some o:=
 PySem.W.hideAll_get _ e fun hm=>by
  have q:(H b).isSome=true:=(Zt7.mp hm).2
  rw[n] at q;simp at q
theorem ZjP{h:Heap}{H:Hp}{b:Addr}{o:Obj}(e:(ZhQ h H).get? b=some o):h.get? b=some o/\H b=none:=by
 have e':h.get? b=some o:=PySem.W.of_hideAll (trk h H) e
 refine⟨e', ?_⟩
 cases q:H b with
 |none=>rfl
 |some x =>
  have hm:b∈trk h H:=Zt7.mpr ⟨Ztv.mpr (Heap.lt_size e'),by simp[q]⟩
  have z:(ZhQ h H).get? b=none:=PySem.W.hideAll_none (trk h H) hm
  rw[z] at e;cases e
noncomputable def Zk5(g h:Heap)(L:Addr):List (Addr×Obj):=(List.range h.objs.size).filterMap fun a=>if a=L\/(g.get? a).isSome=true then none else (h.get? a).map fun o=>(a,o)
noncomputable def ZgK(g h:Heap)(L d:Addr):List (Addr×Obj):=(Zk5 g h L).filter fun p=>decide (p.1≠d)
def BMd(mg:Str->Option Value)(h:Heap):Prop:=∃bm o,mg "__builtins__"=some (.ref bm)/\bm≠builtinsNs/\h.get? bm=some o/\o.cls=.type "module"/\o.dict=some builtinsNs/\o.data=.plain
structure Mod(K:PySem.W.Frag)(mg:Str->Option Value)(base:Heap):Prop where
 kin:K.In base
 glob:base.Ns mainGlobals mg
 blt:∃mb,base.Ns builtinsNs mb/\∀x:Str,x ≠ "__name__"->mb x=bootBuiltins x
 nolimit:base.NoLimit
 bmod:BMd mg base
structure Cx where
 prog:Program
 w:World
 K:PySem.W.Frag
 mg:Str->Option Value
 base:Heap
 A:Around
 N:List Str
 s₀:Shared
 H₀:Hp
 env:Env
 outer:List Env
 stack:List Env
 ex:List Addr
 fn:Str->Bool
 calm:Bool
 pn:List (Addr×Obj)
 xe:Value->Shared->Prop
noncomputable def frs(l:List Env):List Addr:=l.filterMap (·.frame)
noncomputable abbrev Cx.fs(X:Cx):List Addr:=frs X.outer
def Vis(sc:Scope)(x:Str):Prop:=sc.names.lookup x=some .local\/sc.names.lookup x=some .cell\/sc.names.lookup x=some .free
def Loc(sc:Scope)(x:Str):Prop:=sc.names.lookup x=some .local\/sc.names.lookup x=some .cell
def ZnU(env:Env)(h:Heap)(m:Str->Option Value)(x:Str)(u:Value):Prop:=
 (env.kindOf x=some .local/\m x=some u)\/((env.kindOf x=some .cell\/env.kindOf x=some .free)/\∃c,env.cells.lookup x=some c/\h.IsCell c (some u))
noncomputable def Zcv(K:W.Frag)(f:Addr):Option (Addr×Addr):=match K.lookup f with
 |some ⟨_,_,.func fd,_⟩=>if fd.name = "ends_first" then (match fd.code with
   |.ref c=>(match K.lookup c with
    |some ⟨_,_,.fields vs,_⟩=>(match (vs[11]?:Option Value) with
     |some (.ref P)=>if PySem.W.codeHdIn K c P=true then some (c,P) else none
     |_=>none)
    |_=>none)
   |_=>none) else none
 |_=>none
def Zje(K:W.Frag)(H:Hp):Prop:=∀f c P,Zcv K f=some (c,P)->H P=some (.tbl #[] "ends_first.<locals>.<lambda>")
structure Cx.Ok(X:Cx):Prop where
 mod:Mod X.K X.mg X.base
 kind:X.env.scope.kind=.function
 glob:X.env.globals=mainGlobals
 blt:X.env.builtins=builtinsNs
 above:X.s₀.heap.objs.size<=X.env.locals
 inj:∀x y c,X.env.cells.lookup x=some c->X.env.cells.lookup y=some c->x=y
 has:∀x,(X.env.kindOf x=some .cell\/X.env.kindOf x=some .free)->∃c,X.env.cells.lookup x=some c
 cab:∀x c,X.fn x=true->X.env.cells.lookup x=some c->X.s₀.heap.objs.size<=c
 hd:X.calm=true->X.A.handled=none
 frames:X.A.frames=some X.stack
 stk:X.stack=X.outer\/(X.stack=X.env::X.outer/\X.env.frame=some X.env.locals)
 exf:∀b∈X.ex,b≠X.env.locals/\∀x c,X.env.cells.lookup x=some c->c≠b
 bs:∀b o,X.base.get? b=some o->X.s₀.heap.get? b=some o/\X.H₀ b=none
 bsz:X.base.objs.size<=X.s₀.heap.objs.size
 noex:∀b o,X.base.get? b=some o->b ∉ X.ex
 exfs:∀b∈X.ex,b ∉ X.fs
 funs:X.s₀.heap.FunFrames X.base X.outer
 frf:∀b∈X.fs,X.H₀ b=none
 tab:Zje X.K X.H₀
structure Inv(X:Cx)(pins:List (Addr×Obj))(σ:List (Option V))(H:Hp)(s:Shared):Prop where
 ok:X.Ok
 os:s.os=X.s₀.os
 bare:AllBare s.gens
 base:Un X.fs X.ex X.H₀ H X.s₀.heap s.heap
 loc:∃m,s.heap.Ns X.env.locals m/\∀(i:Nat) (x:Str) (v:V),X.N[i]?=some x->σ[i]?=some (some v)->Vis X.env.scope x->∃u,Jo v u/\ZnU X.env s.heap m x u
 cell:∀x c,X.env.cells.lookup x=some c->∃v,s.heap.IsCell c v
 free:H X.env.locals=none
 freeC:∀x c,X.env.cells.lookup x=some c->H c=none
 pin:∀p∈X.pn++pins,s.heap.get? p.1=some p.2/\H p.1=none/\p.1≠X.env.locals/\p.1 ∉ X.fs/\∀v,p.2.data≠.cell v
 hok:HOk X.prog X.w H s.heap
 len:σ.length=X.N.length
section
variable {X:Cx}{pins:List (Addr×Obj)}{σ:List (Option V)}{H H':Hp}{s:Shared}{h':Heap}
theorem Cx.Ok.nofr(ok:X.Ok){b:Addr}{o:Obj}(e:X.base.get? b=some o):b ∉ X.fs:=fun hb=>by
 have:=(ok.funs.mem hb).1
 rw[e] at this;cases this
theorem Inv.bs(I:Inv X pins σ H s):∀b o,X.base.get? b=some o->s.heap.get? b=some o/\H b=none:=fun b o e =>
 ⟨I.base.keep b o (I.ok.bs b o e).1 (I.ok.bs b o e).2 (I.ok.nofr e) (I.ok.noex b o e),I.base.free b o (I.ok.bs b o e).1 (I.ok.bs b o e).2 (I.ok.noex b o e)⟩
theorem Inv.bk(I:Inv X pins σ H s):∀b o,X.base.get? b=some o->s.heap.get? b=some o:=fun b o e=>(I.bs b o e).1
theorem Inv.mod(I:Inv X pins σ H s):Mod X.K X.mg X.base:=I.ok.mod
theorem Inv.kIn(I:Inv X pins σ H s):X.K.In s.heap:=I.ok.mod.kin.keeps I.bk
theorem Inv.nolimit(I:Inv X pins σ H s):s.heap.NoLimit:=I.ok.mod.nolimit.keeps I.bk
theorem Inv.lt(I:Inv X pins σ H s):X.env.locals<s.heap.objs.size:=let ⟨_,hn,_⟩:=I.loc;hn.lt
theorem Inv.sz(I:Inv X pins σ H s):X.s₀.heap.objs.size<=s.heap.objs.size:=Zth I.ok.above (Zul I.lt)
theorem Inv.nofs(I:Inv X pins σ H s){a:Addr}(h:s.heap.objs.size<=a):a ∉ X.fs:=fun hb=>by
 obtain⟨_,o,ho,_⟩:=I.ok.funs.mem hb
 exact absurd (Ztb (Heap.lt_size ho) (Zth I.sz h)) (ZtG _)
theorem Inv.cne(I:Inv X pins σ H s):∀x c,X.env.cells.lookup x=some c->c≠X.env.locals:=fun x c e z=>by
 obtain⟨v,o,ho,hd⟩:=I.cell x c e
 obtain⟨m,⟨o',es,ep,ho',hd',_⟩,_⟩:=I.loc
 rw[z,ho'] at ho;cases ho;rw[hd'] at hd;cases hd
theorem Inv.funs(I:Inv X pins σ H s):s.heap.FunFrames X.base X.outer:=by
 have all:∀(l:List Env),(∀b∈frs l,b∈X.fs)->X.s₀.heap.FunFrames X.base l->s.heap.FunFrames X.base l:=by
  intro l
  induction l with
  |nil=>intro _ _;trivial
  |cons env r ih =>
   intro hs hl
   obtain⟨hk,⟨L,o,hf,hn,ho,hd⟩,hr⟩:=hl
   have hL:L∈X.fs:=hs L (by unfold frs;rw[ZuK,hf];exact Zt5)
   obtain⟨sl,e⟩:=I.base.slot L o ho (I.ok.frf L hL) hL fun z=>I.ok.exfs L z hL
   exact⟨hk,⟨L,_,hf,hn,e,hd⟩,ih (fun b hb=>hs b (by unfold frs;rw[ZuK,hf];exact Ztk _ hb)) hr⟩
 exact all X.outer (fun _ hb=>hb) I.ok.funs
theorem Inv.stack(I:Inv X pins σ H s):s.heap.FunFrames X.base X.stack:=by
 rcases I.ok.stk with e|⟨e,hf⟩
 ·rw[e];exact I.funs
 ·rw[e]
  obtain⟨m,hn,_⟩:=I.loc
  refine .cons (by rw[I.ok.kind];decide) hf hn ?_ I.funs
  exact Heap.get?_none_of_le (Zth I.ok.bsz I.ok.above)
theorem Inv.stkSub(I:Inv X pins σ H s):∀b∈frs X.stack,b∈X.env.locals::X.fs:=fun b hb=>by
 rcases I.ok.stk with e|⟨e,hf⟩
 ·rw[e] at hb;exact Ztk _ hb
 ·rw[e] at hb
  unfold frs at hb
  rw[ZuK,hf] at hb
  exact hb
theorem Inv.stkFree(I:Inv X pins σ H s):∀b∈frs X.stack,H b=none:=fun b hb=>by
 rcases ZsT.mp (I.stkSub b hb) with e|hb
 ·rw[e];exact I.free
 ·obtain⟨_,o,ho,_⟩:=I.ok.funs.mem hb
  exact I.base.free b o ho (I.ok.frf b hb) fun z=>I.ok.exfs b z hb
theorem Inv.step{g':Array GenState}{t':Nat}{d':Drawn}{ch:List Addr}(I:Inv X pins σ H s)(hch:∀b∈ch,(b∈X.ex\/X.s₀.heap.objs.size<=b)/\b≠X.env.locals/\(∀x c,X.env.cells.lookup x=some c->c≠b)/\∀p∈X.pn++pins,p.1≠b)(keep:∀b o,b≠X.env.locals->b ∉ X.fs->b ∉ ch->s.heap.get? b=some o->H b=none->h'.get? b=some o)(slot:∀b o,b≠X.env.locals->b∈X.fs->b ∉ ch->s.heap.get? b=some o->H b=none->∃sl,h'.get? b=some { o with slots:=sl })(free:∀b o,b ∉ ch->s.heap.get? b=some o->H b=none->H' b=none)(there:∀b o,b ∉ ch->s.heap.get? b=some o->∃o',h'.get? b=some o')(tups:∀b xs,H b=some (.tup xs)->H' b=some (.tup xs))(frzs:∀b o u,H b=some (.frz o u)->H' b=some (.frz o u))(tbls:∀b ps q,H b=some (.tbl ps q)->H' b=some (.tbl ps q))(ns:∀m,s.heap.Ns X.env.locals m->h'.Ns X.env.locals m)(hok:HOk X.prog X.w H' h')(hg:AllBare g') :
  Inv X pins σ H' { s with heap:=h',gens:=g',drawn:=d',toks:=t' }:=by
 have neL:∀b o,X.s₀.heap.get? b=some o->b≠X.env.locals:=fun b o e=>Ztm (Ztb (Heap.lt_size e) I.ok.above)
 have neC:∀b o,X.s₀.heap.get? b=some o->b ∉ X.ex->b ∉ ch:=fun b o e hx hb=>by
  rcases (hch b hb).1 with z|z
  ·exact hx z
  ·exact absurd (Ztb (Heap.lt_size e) z) (ZtG _)
 have cellK:∀x c,X.env.cells.lookup x=some c->∀v,s.heap.IsCell c v->h'.IsCell c v:=fun x c e v ⟨o,ho,hd⟩=>by
  have nch:c ∉ ch:=fun z=>(hch c z).2.2.1 x c e rfl
  by_cases hc:c∈X.fs
  ·obtain⟨sl,q⟩:=slot c o (I.cne x c e) hc nch ho (I.freeC x c e)
   exact⟨_,q,hd⟩
  ·exact⟨o,keep c o (I.cne x c e) hc nch ho (I.freeC x c e),hd⟩
 refine⟨I.ok,I.os,hg,⟨fun b o e n hb hx=>?_,fun b o e n hb hx=>?_,fun b o e n hx=>?_,fun b o e hx=>?_,fun b xs e=>tups b xs (I.base.tups b xs e),fun b o xs e=>frzs b o xs (I.base.frzs b o xs e),fun b ps u e=>tbls b ps u (I.base.tbls b ps u e)⟩, ?_,fun x c e=>?_, ?_,fun x c e=>?_,fun p hp=>?_,hok,I.len⟩
 ·exact keep b o (neL b o e) hb (neC b o e hx) (I.base.keep b o e n hb hx) (I.base.free b o e n hx)
 ·obtain⟨sl,e1⟩:=I.base.slot b o e n hb hx
  obtain⟨sl',e2⟩:=slot b _ (neL b o e) hb (neC b o e hx) e1 (I.base.free b o e n hx)
  exact⟨sl',e2⟩
 ·obtain⟨o',e1⟩:=I.base.there b o e hx
  exact free b o' (neC b o e hx) e1 (I.base.free b o e n hx)
 ·obtain⟨o',e1⟩:=I.base.there b o e hx
  exact there b o' (neC b o e hx) e1
 ·obtain⟨m,hn,hl⟩:=I.loc
  refine⟨m,ns m hn,fun i x v e1 e2 e3=>?_⟩
  obtain⟨u,r,l⟩:=hl i x v e1 e2 e3
  refine⟨u,r, ?_⟩
  rcases l with l|⟨k,c,e,z⟩
  ·exact .inl l
  ·exact .inr ⟨k,c,e,cellK x c e _ z⟩
 ·obtain⟨v,z⟩:=I.cell x c e
  exact⟨v,cellK x c e v z⟩
 ·obtain⟨m,⟨o,_,_,ho,_⟩,_⟩:=I.loc
  exact free _ o (fun z=>(hch _ z).2.1 rfl) ho I.free
 ·obtain⟨v,o,ho,hd⟩:=I.cell x c e
  exact free c o (fun z=>(hch c z).2.2.1 x c e rfl) ho (I.freeC x c e)
 ·obtain⟨e,n,ne,nf,d⟩:=I.pin p hp
  have nch:p.1 ∉ ch:=fun z=>(hch p.1 z).2.2.2 p hp rfl
  exact⟨keep p.1 p.2 ne nf nch e n,free p.1 p.2 nch e n,ne,nf,d⟩
theorem Inv.un{t':Nat}(I:Inv X pins σ H s)(u:Un X.fs [] H H' s.heap h')(hok:HOk X.prog X.w H' h'):Inv X pins σ H' { s with heap:=h',toks:=t' }:=by
 obtain⟨m,⟨o,es,ep,ho,r⟩,_⟩:=id I.loc
 obtain⟨sl,hL⟩:=u.any ho I.free (by simp)
 exact I.step (g':=s.gens) (d':=s.drawn) (ch:=[]) (fun _ z=>nomatch z) (fun b o _ hb _ e n=>u.keep b o e n hb (by simp)) (fun b o _ hb _ e n=>u.slot b o e n hb (by simp)) (fun b o _ e n=>u.free b o e n (by simp)) (fun b o _ e=>u.there b o e (by simp)) u.tups u.frzs u.tbls (fun m' hm=>by
  obtain⟨o',es',ep',ho',r'⟩:=hm
  rw[ho] at ho';cases ho'
  exact⟨_,es',ep',hL,r'⟩) hok I.bare
theorem Inv.call{g':Array GenState}{t':Nat}{d':Drawn}{ch:List Addr}(I:Inv X pins σ H s)(u:Un (frs X.stack) ch H H' s.heap h')(hok:HOk X.prog X.w H' h')(hg:AllBare g')(hch:∀b∈ch,(b∈X.ex\/X.s₀.heap.objs.size<=b)/\b≠X.env.locals/\(∀x c,X.env.cells.lookup x=some c->c≠b)/\∀p∈X.pn++pins,p.1≠b) :
  Inv X pins σ H' { s with heap:=h',gens:=g',drawn:=d',toks:=t' }:=by
 obtain⟨m,⟨o,es,ep,ho,r⟩,_⟩:=id I.loc
 obtain⟨sl,hL⟩:=u.any ho I.free fun z=>(hch _ z).2.1 rfl
 exact I.step (ch:=ch) hch (fun b o hL hb hc e n=>u.keep b o e n (fun z=>(ZsT.mp (I.stkSub b z)).elim hL hb) hc) (fun b o _ _ hc e n=>u.any e n hc) (fun b o hc e n=>u.free b o e n hc) (fun b o hc e=>u.there b o e hc) u.tups u.frzs u.tbls (fun m' hm=>by
  obtain⟨o',es',ep',ho',r'⟩:=hm
  rw[ho] at ho';cases ho'
  exact⟨_,es',ep',hL,r'⟩) hok hg
theorem Inv.turned{t':Nat}{it:Addr}(I:Inv X pins σ H s)(k:∀b o,b≠it->s.heap.get? b=some o->h'.get? b=some o)(hn:H it=none)(hL:it≠X.env.locals)(h1:it∈X.ex\/X.s₀.heap.objs.size<=it)(h2:∀x c,X.env.cells.lookup x=some c->c≠it)(h3:∀p∈X.pn++pins,p.1≠it):Inv X pins σ H { s with heap:=h',toks:=t' }:=by
 have nit:∀b u,H b=some u->b≠it:=fun b u e z=>by rw[z,hn] at e;cases e
 refine I.step (g':=s.gens) (d':=s.drawn) (ch:=[it]) (fun b hb=>?_) (fun b o _ _ hc e _=>k b o (fun z=>hc (by simp[z])) e) (fun b o _ _ hc e _=>⟨o.slots,k b o (fun z=>hc (by simp[z])) e⟩) (fun _ _ _ _ n=>n)
  (fun b o hc e=>⟨o,k b o (fun z=>hc (by simp[z])) e⟩) (fun _ _ e=>e) (fun _ _ _ e=>e) (fun b ps u e=>e) (fun m hm=>?_) (fun b u e=>?_) I.bare
 ·have e:b=it:=by simpa using hb
  subst e
  exact⟨h1,hL,h2,h3⟩
 ·obtain⟨o,es,ep,ho,r⟩:=hm
  exact⟨o,es,ep,k _ o (Ne.symm hL) ho,r⟩
 ·refine(I.hok b u e).stay (fun c v hc q=>k c v ?_ q) (fun _ q=>q) fun _ _ q=>q
  rcases hc with z|z
  ·rw[z];exact nit b u e
  ·exact nit c _ z
theorem Inv.tok(I:Inv X pins σ H s)(t:Nat):Inv X pins σ H { s with toks:=t }:=I.un (h':=s.heap) (t':=t) Un.refl I.hok
theorem Inv.kept{t':Nat}(I:Inv X pins σ H s)(k:∀b u,s.heap.get? b=some u->h'.get? b=some u):Inv X pins σ H { s with heap:=h',toks:=t' }:=I.un (Un.kept k) (I.hok.kept k)
theorem Inv.laid{a:Addr}{o:HO}{t':Nat}(I:Inv X pins σ H s)(k:∀b u,s.heap.get? b=some u->h'.get? b=some u)(hp:s.heap.objs.size<=a)(new:JG X.prog X.w (upd H a o) h' a o) :
  Inv X pins σ (upd H a o) { s with heap:=h',toks:=t' }:=I.un (Un.laid k hp (I.hok.fresh hp)) (I.hok.laid k hp new)
theorem Inv.write{x e:Addr}{o:HO}{t':Nat}(I:Inv X pins σ H s)(mu:Mut (H x))(he:e=x\/H e=some (.own x))(k:∀b u,b≠e->s.heap.get? b=some u->h'.get? b=some u)(heo:∃u,h'.get? e=some u)(new:JG X.prog X.w (upd H x o) h' x o):Inv X pins σ (upd H x o) { s with heap:=h',toks:=t' }:=I.un (Un.write mu he k heo) (I.hok.write mu he k heo new)
theorem Inv.pins_of{pins':List (Addr×Obj)}(I:Inv X pins σ H s)(h:∀p∈pins',s.heap.get? p.1=some p.2/\H p.1=none/\p.1≠X.env.locals/\p.1 ∉ X.fs/\∀v,p.2.data≠.cell v):Inv X pins' σ H s:=
 ⟨I.ok,I.os,I.bare,I.base,I.loc,I.cell,I.free,I.freeC,fun p hp=>(ZsO.mp hp).elim (fun z=>I.pin p (ZsQ _ z)) (h p),I.hok,I.len⟩
theorem ZdL{N:List Str}(hN:N.Nodup){i j:Nat}{x:Str}(a:N[i]?=some x)(b:N[j]?=some x):i=j:=by
 obtain⟨h1,e1⟩:=ZsJ.mp a
 obtain⟨h2,e2⟩:=ZsJ.mp b
 exact(List.getElem_inj hN).mp (e1.trans e2.symm)
theorem Zb7{M:Model}{A:Around}{E:Value->Shared->Prop}{i:Nat}{x:Str}{v:V}{u:Value}{Q:Unit->Shared->Prop}(I:Inv X pins σ H s)(hN:X.N.Nodup)(hi:X.N[i]?=some x)(hx:Loc X.env.scope x)(r:Jo v u)(h:∀s',Inv X pins (σ.set i (some v)) H s'->(∃a,Heap.SameBut a s.heap s'.heap/\(a=X.env.locals\/X.env.cells.lookup x=some a))->Q () s')(hf:X.fn x=true\/X.env.scope.names.lookup x=some .local):wpAny M A (storeName X.env x u) Q E s:=by
 obtain⟨m,hn,hl⟩:=id I.loc
 have hcls:(X.env.scope.kind==.class || (X.env.scope.kind==.module&&X.env.locals != X.env.globals))=false:=by rw[I.ok.kind];rfl
 have hiσ:i<σ.length:=by rw[I.len];exact(ZsJ.mp hi).1
 have cne:=I.cne
 have tracked:∀{a:Addr}{h':Heap},(∃o,s.heap.get? a=some o/\H a=none)->Heap.SameBut a s.heap h'->HOk X.prog X.w H h':=fun {a h'} ha hs b ob e=>by
  obtain⟨_,_,hfree⟩:=ha
  refine(I.hok b ob e).stay (fun c w' hc q=>(hs.2 c ?_).trans q) (fun _ q=>q) fun _ _ q=>q
  rintro rfl
  rcases hc with rfl|hc
  ·rw[hfree] at e;cases e
  ·rw[hfree] at hc;cases hc
 rcases hx with hk|hk
 ·refine wpAny_storeName_local hk hn (fun h' hn' hs=>?_) hcls
  obtain⟨oL,_,_,hoL,_⟩:=id hn
  refine h _ ⟨I.ok,I.os,I.bare,⟨fun b o e n hb hx=>?_,fun b o e n hb hx=>?_,I.base.free,fun b o e hx=>?_,I.base.tups,I.base.frzs,I.base.tbls⟩,⟨_,hn',fun j y v' e1 e2 e3=>?_⟩,fun y c e=>?_,I.free,I.freeC,fun p hp=>?_,tracked ⟨oL,hoL,I.free⟩ hs,by simpa using I.len⟩ ⟨_,hs,.inl rfl⟩
  ·exact(hs.2 b (Ztm (Ztb (Heap.lt_size e) I.ok.above))).trans (I.base.keep b o e n hb hx)
  ·obtain⟨sl,e1⟩:=I.base.slot b o e n hb hx
   exact⟨sl,(hs.2 b (Ztm (Ztb (Heap.lt_size e) I.ok.above))).trans e1⟩
  ·obtain⟨o',e1⟩:=I.base.there b o e hx
   exact⟨o',(hs.2 b (Ztm (Ztb (Heap.lt_size e) I.ok.above))).trans e1⟩
  ·by_cases hj:j=i
   ·subst hj
    rw[hi] at e1;cases e1
    rw[Ztr hiσ] at e2
    cases e2
    exact⟨u,r,.inl ⟨hk,by simp⟩⟩
   ·rw[Ztz (Ne.symm hj)] at e2
    obtain⟨u',r',q⟩:=hl j y v' e1 e2 e3
    refine⟨u',r', ?_⟩
    rcases q with ⟨k,e⟩|⟨k,c,e,z⟩
    ·refine .inl ⟨k, ?_⟩
     have:y≠x:=fun e=>hj (ZdL hN e1 (e▸hi))
     simp[this,e]
    ·exact .inr ⟨k,c,e,z.sameBut hs (cne y c e)⟩
  ·obtain⟨w',z⟩:=I.cell y c e
   exact⟨w',z.sameBut hs (cne y c e)⟩
  ·obtain⟨e,n,ne,nf,d⟩:=I.pin p hp
   exact⟨(hs.2 p.1 ne).trans e,n,ne,nf,d⟩
 ·have hfn:X.fn x=true:=by
   rcases hf with z|z
   ·exact z
   ·rw[z] at hk;cases hk
  obtain⟨c,hc⟩:=I.ok.has x (.inl hk)
  obtain⟨w',z⟩:=I.cell x c hc
  refine wpAny_storeName_cell I.ok.kind hk hc z (fun h' hc' hs=>?_)
  obtain⟨oc,hoc,hocd⟩:=id z
  refine h { s with heap:=h' } ⟨I.ok,I.os,I.bare,⟨fun b o e n hb hx=>?_,fun b o e n hb hx=>?_,I.base.free,fun b o e hx=>?_,I.base.tups,I.base.frzs,I.base.tbls⟩,⟨m,hn.sameBut hs (Ne.symm (cne x c hc)),fun j y v' e1 e2 e3=>?_⟩,fun y c' e=>?_,I.free,I.freeC,fun p hp=>?_,tracked ⟨oc,hoc,I.freeC x c hc⟩ hs,by simpa using I.len⟩ ⟨c,hs,.inr hc⟩
  ·exact(hs.2 b (Ztm (Ztb (Heap.lt_size e) (I.ok.cab x c hfn hc)))).trans (I.base.keep b o e n hb hx)
  ·obtain⟨sl,e1⟩:=I.base.slot b o e n hb hx
   exact⟨sl,(hs.2 b (Ztm (Ztb (Heap.lt_size e) (I.ok.cab x c hfn hc)))).trans e1⟩
  ·obtain⟨o',e1⟩:=I.base.there b o e hx
   exact⟨o',(hs.2 b (Ztm (Ztb (Heap.lt_size e) (I.ok.cab x c hfn hc)))).trans e1⟩
  ·by_cases hj:j=i
   ·subst hj
    rw[hi] at e1;cases e1
    rw[Ztr hiσ] at e2
    cases e2
    exact⟨u,r,.inr ⟨.inl hk,c,hc,hc'⟩⟩
   ·rw[Ztz (Ne.symm hj)] at e2
    obtain⟨u',r',q⟩:=hl j y v' e1 e2 e3
    refine⟨u',r', ?_⟩
    rcases q with q|⟨k,c',e,z'⟩
    ·exact .inl q
    ·refine .inr ⟨k,c',e,z'.sameBut hs ?_⟩
     rintro rfl
     exact hj (ZdL hN e1 (I.ok.inj _ _ _ e hc▸hi))
  ·by_cases hcc:c'=c
   ·subst hcc;exact⟨_,hc'⟩
   ·obtain⟨w2,z2⟩:=I.cell y c' e
    exact⟨w2,z2.sameBut hs hcc⟩
  ·obtain⟨e,n,ne,nf,d⟩:=I.pin p hp
   refine⟨(hs.2 p.1 ?_).trans e,n,ne,nf,d⟩
   intro q
   rw[q,hoc] at e
   have q':oc=p.2:=Option.some.inj e
   exact d w' (by rw[<- q'];exact hocd)
theorem Qk{M:Model}{A:Around}{E:Value->Shared->Prop}{i:Nat}{x:Str}{v:V}{u:Value}{Q:Unit->Shared->Prop}(I:Inv X pins σ H s)(hN:X.N.Nodup)(hi:X.N[i]?=some x)(hx:Loc X.env.scope x)(r:Jo v u)(h:∀s',Inv X pins (σ.set i (some v)) H s'->Q () s')(hf:X.fn x=true\/X.env.scope.names.lookup x=some .local):wpAny M A (storeName X.env x u) Q E s:=
 Zb7 I hN hi hx r (fun s' I' _=>h s' I') hf
theorem Inv.call'{s':Shared}{ch:List Addr}(I:Inv X pins σ H s)(ho:s'.os=s.os)(u:Un (frs X.stack) ch H H' s.heap s'.heap)(hok:HOk X.prog X.w H' s'.heap)(hg:AllBare s'.gens)(hch:∀b∈ch,(b∈X.ex\/X.s₀.heap.objs.size<=b)/\b≠X.env.locals/\(∀x c,X.env.cells.lookup x=some c->c≠b)/\∀p∈X.pn++pins,p.1≠b):Inv X pins σ H' s':=by
 obtain⟨h',g',d',t',o'⟩:=s'
 have e:o'=s.os:=ho
 subst e
 exact I.call (g':=g') (t':=t') (d':=d') u hok hg hch
end
noncomputable abbrev XK:=Value->Option Addr->Hp->Prop
noncomputable abbrev St:=List (Option V)
noncomputable abbrev VK:=V->Hp->Prop
noncomputable abbrev TE:=St->Hp->VK->Prop
noncomputable abbrev TT:=St->Hp->(Bool->Hp->Prop)->Prop
noncomputable abbrev TA:=St->Hp->(List V->Hp->Prop)->Prop
structure Ziy where
 nx:St->Hp->Prop
 rt:VK
 bk:St->Hp->Prop:=fun _ _=>False
 ct:St->Hp->Prop:=fun _ _=>False
noncomputable abbrev TS:=Ziy->St->Hp->Prop
def EP(X:Cx)(pins:List (Addr×Obj))(σ:St)(Q:VK)(u:Value)(s':Shared):Prop:=∃v H',Inv X pins σ H' s'/\Jo v u/\Q v H'
def TP(X:Cx)(pins:List (Addr×Obj))(σ:St)(Q:Bool->Hp->Prop)(b:Bool)(s':Shared):Prop:=∃H',Inv X pins σ H' s'/\Q b H'
def AP(X:Cx)(pins:List (Addr×Obj))(σ:St)(Q:List V->Hp->Prop)(us:List Value)(s':Shared):Prop:=∃vs H',Inv X pins σ H' s'/\ZY vs us/\Q vs H'
def SP(X:Cx)(pins:List (Addr×Obj))(D:Ziy)(f:Flow)(s':Shared):Prop:=
 match f with
 |.next=>∃σ' H',Inv X pins σ' H' s'/\D.nx σ' H'
 |.brk=>∃σ' H',Inv X pins σ' H' s'/\D.bk σ' H'
 |.cont=>∃σ' H',Inv X pins σ' H' s'/\D.ct σ' H'
 |.ret u=>∃v σ' H',Inv X pins σ' H' s'/\Jo v u/\D.rt v H'
def PE(X:Cx)(e:Expr)(t:TE):Prop:=
 ∀(pins:List (Addr×Obj)) (s:Shared) (σ:St) (H:Hp) (Q:VK),Inv X pins σ H s->t σ H Q->wpAny (model X.prog X.w) X.A (eval e X.env) (EP X pins σ Q) X.xe s
def PT(X:Cx)(e:Expr)(t:TT):Prop:=
 ∀(pins:List (Addr×Obj)) (s:Shared) (σ:St) (H:Hp) (Q:Bool->Hp->Prop),Inv X pins σ H s->t σ H Q->wpAny (model X.prog X.w) X.A (isTrue e X.env (eval e X.env)) (TP X pins σ Q) X.xe s
def PW(X:Cx)(e:Expr)(t:TT):Prop:=
 ∀(whole:Sem Value) (pins:List (Addr×Obj)) (s:Shared) (σ:St) (H:Hp) (Q:Bool->Hp->Prop),Inv X pins σ H s->t σ H Q->wpAny (model X.prog X.w) X.A (isTrue e X.env whole) (TP X pins σ Q) X.xe s
theorem PW.pt{X:Cx}{e:Expr}{t:TT}(h:PW X e t):PT X e t:=h _
def PA(X:Cx)(es:List Expr)(t:TA):Prop:=
 ∀(pos:Pos) (pins:List (Addr×Obj)) (s:Shared) (σ:St) (H:Hp) (Q:List V->Hp->Prop),Inv X pins σ H s->t σ H Q->wpAny (model X.prog X.w) X.A (spliced (backTo pos (starEach es X.env))) (AP X pins σ Q) X.xe s
def PS(X:Cx)(st:Stmt)(t:TS):Prop:=
 ∀(pins:List (Addr×Obj)) (s:Shared) (σ:St) (H:Hp) (D:Ziy),Inv X pins σ H s->t D σ H->wpAny (model X.prog X.w) X.A (exec st X.env) (SP X pins D) X.xe s
def PSs(X:Cx)(st:List Stmt)(t:TS):Prop:=
 ∀(pins:List (Addr×Obj)) (s:Shared) (σ:St) (H:Hp) (D:Ziy),Inv X pins σ H s->t D σ H->wpAny (model X.prog X.w) X.A (execs st X.env) (SP X pins D) X.xe s
theorem thn{α:Type}{t:Sem α}{Q Q':α->Shared->Prop}{M:Model}{A:Around}{E:Value->Shared->Prop}{s:Shared}(h:wpAny M A t Q E s)(hQ:∀a s,Q a s->Q' a s):wpAny M A t Q' E s:=wpAny_mono h hQ fun _ _ x=>x
section
variable {X:Cx}
noncomputable def Za9(i:Nat):TE:=fun σ H Q=>∃v,σ[i]?=some (some v)/\Q v H
noncomputable def tC(v:V):TE:=fun _ H Q=>Q v H
theorem Zli{i:Nat}{x:Str}{pos:Pos}(hN:X.N[i]?=some x)(hv:Vis X.env.scope x)(hd:(x==("__debug__":Str))=false:=by decide)(hcd:(x==("__classdict__":Str))=false:=by decide):PE X (.Name x pos) (Za9 i):=by
 intro pins s σ H Q I h
 obtain⟨v,e,h⟩:=h
 obtain⟨m,hn,hl⟩:=I.loc
 obtain⟨u,r,l⟩:=hl i x v hN e hv
 have fin:EP X pins σ Q u s:=⟨v,H,I,r,h⟩
 rcases l with ⟨hk,hm⟩|⟨hk,c,hc,hcell⟩
 ·exact wpAny_Name (wpAny_loadName_local I.ok.kind hk hn hm fin) hd
 ·rcases hk with hk|hk
  ·exact wpAny_Name (wpAny_loadName_cell I.ok.kind hk hc hcell fin) hd
  ·exact wpAny_Name (wpAny_loadName_free I.ok.kind hk hc hcell fin hcd) hd
theorem Zh{i j pos}:PE X (.Constant (.int i) j pos) (tC (.int i)):=fun _ _ _ H _ I h=>wpAny_Constant_int ⟨.int i,H,I.tok _,⟨_,rfl⟩,h⟩
theorem Zab{b j pos}:PE X (.Constant (.bool b) j pos) (tC (.bl b)):=fun _ _ _ H _ I h=>Constant_bool ⟨.bl b,H,I,rfl,h⟩
theorem VZ{j pos}:PE X (.Constant .none j pos) (tC .non):=fun _ _ _ H _ I h=>Constant_none ⟨.non,H,I,rfl,h⟩
theorem Zft{x j pos}:PE X (.Constant (.str x) j pos) (tC (.str x)):=fun _ _ _ H _ I h=>Calls.Constant_str ⟨.str x,H,I.tok _,⟨_,rfl⟩,h⟩
def Gl(X:Cx)(x:Str):Prop:=X.env.kindOf x=some .globalImplicit
theorem ZcM{E:Value->Shared->Prop}{pins:List (Addr×Obj)}{s:Shared}{σ:St}{H:Hp}{x:Str}{u:Value}{pos:Pos}{Q:Value->Shared->Prop}(I:Inv X pins σ H s)(hg:Gl X x)(hm:X.mg x=some u)(h:Q u s)(hd:(x==("__debug__":Str))=false:=by decide):wpAny (model X.prog X.w) X.A (eval (.Name x pos) X.env) Q E s:=
 Calls.Name_function_global I.ok.kind hg (Calls.loadGlobal_global (by rw[I.ok.glob];exact I.mod.glob.keeps I.bk) hm h) hd
theorem UX{E:Value->Shared->Prop}{pins:List (Addr×Obj)}{s:Shared}{σ:St}{H:Hp}{x:Str}{u:Value}{pos:Pos}{Q:Value->Shared->Prop}(I:Inv X pins σ H s)(hg:Gl X x)(hm:X.mg x=none)(hv:bootBuiltins x=some u)(h:Q u s)(hn:x ≠ "__name__":=by decide)(hd:(x==("__debug__":Str))=false:=by decide):wpAny (model X.prog X.w) X.A (eval (.Name x pos) X.env) Q E s:=by
 obtain⟨mb,h1,h2⟩:=I.mod.blt
 exact Calls.Name_function_global I.ok.kind hg (Calls.loadGlobal_builtin (by rw[I.ok.glob];exact I.mod.glob.keeps I.bk) hm (by rw[I.ok.blt];exact h1.keeps I.bk) ((h2 x hn).trans hv) h) hd
theorem ZjB{x:Str}{v:V}{u:Value}{pos:Pos}(hg:Gl X x)(hm:X.mg x=some u)(r:Jo v u)(hd:(x==("__debug__":Str))=false:=by decide):PE X (.Name x pos) (tC v):=
 fun _ _ _ H _ I h=>ZcM I hg hm ⟨v,H,I,r,h⟩ hd
theorem Jr{x:Str}{v:V}{u:Value}{pos:Pos}(hg:Gl X x)(hm:X.mg x=none)(hv:bootBuiltins x=some u)(r:Jo v u)(hn:x ≠ "__name__":=by decide)(hd:(x==("__debug__":Str))=false:=by decide):PE X (.Name x pos) (tC v):=
 fun _ _ _ H _ I h=>UX I hg hm hv ⟨v,H,I,r,h⟩ hn hd
variable {a b:Expr}{ta tb:TE}{pos:Pos}
def PC(X:Cx)(op:CmpOp)(a b:Expr)(t:TE):Prop:=
 ∀(pins:List (Addr×Obj)) (s:Shared) (σ:St) (H:Hp) (Q:VK),Inv X pins σ H s->t σ H Q ->
  wpAny (model X.prog X.w) X.A (eval a X.env) (fun v s₁=>wpAny (model X.prog X.w) X.A (eval b X.env) (fun u s₂=>wpAny (model X.prog X.w) X.A (compareOp op v u) (EP X pins σ Q) X.xe s₂) X.xe s₁) X.xe s
theorem Zm2(b:Expr){op:CmpOp}(h:op≠.In)(h2:op≠.NotIn):behindInMarks op b=false:=by
 have e1:(op==CmpOp.In)=false:=by cases op<;>first|rfl|exact absurd rfl h
 have e2:(op==CmpOp.NotIn)=false:=by cases op<;>first|rfl|exact absurd rfl h2
 cases b<;>simp[behindInMarks,e1,e2]
noncomputable def tB(t:TE):TT:=fun σ H Q=>t σ H fun x H1=>∃c,x=.bl c/\Q c H1
theorem Zfn{op:CmpOp}{t:TE}(h:PC X op a b t)(h1:behindInMarks op b=false:=by rfl):PT X (.Compare a [op] [b] pos) (tB t):=by
 intro pins s σ H Q I hw
 refine wpAny_isTrue_Compare1 (thn (h pins s σ H _ I hw) fun v s1 h1=>thn h1 fun u s2 h2=>thn h2 fun c s3 ⟨x,H1,I1,r1,q1⟩=>?_) h1
 obtain⟨d,rfl,q⟩:=q1
 cases r1
 exact wpAny_truthy_bool ⟨H1,I1,q⟩
theorem J6{e:Expr}{t:TE}(h:PE X e t)(he:∀whole,isTrue e X.env whole=(do let v <- whole;standAt e.pos;holding [v] (truthy v)):=by exact fun _=>rfl):PT X e (tB t):=by
 intro pins s σ H Q I hw
 refine isTrue_plain (thn (h pins s σ H _ I hw) fun v s1 ⟨x,H1,I1,r1,q1⟩=>?_) (he _)
 obtain⟨d,rfl,q⟩:=q1
 cases r1
 exact wpAny_truthy_bool ⟨H1,I1,q⟩
variable {tA tB':TT}{ZgK:List Expr}
noncomputable def Znz(t u:TT):TT:=fun σ H Q=>t σ H fun c H1=>if c=true then u σ H1 Q else Q false H1
noncomputable def tOr(t u:TT):TT:=fun σ H Q=>t σ H fun c H1=>if c=true then Q true H1 else u σ H1 Q
noncomputable def Znv(t:TT):TT:=fun σ H Q=>t σ H fun c H1=>Q (!c) H1
theorem Zfl(ha:PT X a tA):PW X (.BoolOp .And [a] pos) tA:=by
 intro wh pins s σ H Q I h
 refine isTrue_and (thn (ha pins s σ H Q I h) fun c s1 e=>?_)
 cases c with
 |true=>exact isTrue_and_nil e
 |false=>exact e
theorem V8(ha:PT X a tA):PW X (.BoolOp .Or [a] pos) tA:=by
 intro wh pins s σ H Q I h
 refine isTrue_or (thn (ha pins s σ H Q I h) fun c s1 e=>?_)
 cases c with
 |false=>exact isTrue_or_nil e
 |true=>exact e
theorem ZiG(ha:PT X a tA)(hb:PW X (.BoolOp .And (b::ZgK) pos) tB'):PW X (.BoolOp .And (a::b::ZgK) pos) (Znz tA tB'):=by
 intro wh pins s σ H Q I h
 refine isTrue_and (thn (ha pins s σ H _ I h) fun c s1 ⟨H1,I1,q1⟩=>?_)
 cases c with
 |true=>exact hb wh pins s1 σ H1 Q I1 q1
 |false=>exact⟨H1,I1,q1⟩
theorem Vp(ha:PT X a tA)(hb:PW X (.BoolOp .Or (b::ZgK) pos) tB'):PW X (.BoolOp .Or (a::b::ZgK) pos) (tOr tA tB'):=by
 intro wh pins s σ H Q I h
 refine isTrue_or (thn (ha pins s σ H _ I h) fun c s1 ⟨H1,I1,q1⟩=>?_)
 cases c with
 |true=>exact⟨H1,I1,q1⟩
 |false=>exact hb wh pins s1 σ H1 Q I1 q1
theorem J9(ha:PT X a tA):PT X (.UnaryOp .Not a pos) (Znv tA):=by
 intro pins s σ H Q I h
 exact isTrue_not (ha pins s σ H (fun c H1=>Q (!c) H1) I h)
noncomputable def ZkW(ta tb:TE):TE:=fun σ H Q=>ta σ H fun x H1=>∃c,x=.bl c/\if c=true then tb σ H1 Q else Q (.bl false) H1
noncomputable def ZkP(ta:TE):TE:=fun σ H Q=>ta σ H fun x H1=>∃c,x=.bl c/\Q (.bl (!c)) H1
theorem ZbE{op}{t:TE}(h:PE X a t):PE X (.BoolOp op [a] pos) t:=fun pins s σ H Q I hw=>BoolOp_one (h pins s σ H Q I hw)
theorem ZbG(ha:PE X a ta)(hb:PE X (.BoolOp .And (b::ZgK) pos) tb):PE X (.BoolOp .And (a::b::ZgK) pos) (ZkW ta tb):=by
 intro pins s σ H Q I h
 refine BoolOp_and (thn (ha pins s σ H _ I h) fun v s1 ⟨x,H1,I1,r1,q1⟩=>?_)
 obtain⟨c,rfl,q1⟩:=q1
 cases r1
 refine wpAny_truthy_bool ?_
 cases c with
 |true=>exact hb pins s1 σ H1 Q I1 q1
 |false=>exact⟨.bl false,H1,I1,rfl,q1⟩
theorem Zlj(ha:PE X a ta):PE X (.UnaryOp .Not a pos) (ZkP ta):=by
 intro pins s σ H Q I h
 refine UnaryOp_ (thn (ha pins s σ H _ I h) fun v s1 ⟨x,H1,I1,r1,q1⟩=>?_)
 obtain⟨c,rfl,q1⟩:=q1
 cases r1
 exact not_of (wpAny_truthy_bool ⟨.bl (!c),H1,I1,rfl,q1⟩)
end
def SqL(K:W.Frag)(H:Hp)(a:Addr)(xs:List V):Prop:=
 Rd H a (.lst xs) \/
  ∃(o:Obj) (its:Array Value) (n:Nat),K.lookup a=some o/\o.cls=.type "list"/\o.dict=none/\o.data=.seq its n/\its.size<=sizeLine/\ZY xs its.toList
def SqT(K:W.Frag)(H:Hp)(a:Addr)(xs:List V):Prop:=
 Rd H a (.tup xs) \/
  ∃(o:Obj) (its:Array Value) (n:Nat),K.lookup a=some o/\o.cls=.type "tuple"/\o.data=.seq its n/\its.size<=sizeLine/\ZY xs its.toList
noncomputable def ZnR:Value->Option V
 |.none=>some .non
 |.bool b=>some (.bl b)
 |.int i _=>some (.int i)
 |.str x _=>some (.str x)
 |.bytes b _=>some (.byt b)
 |.float b _=>some (.flt b)
 |.ref a=>some (.ref a)
 |.type n=>some (.ty n)
 |_=>none
theorem Jo.abs{x:V}{u:Value}(r:Jo x u):ZnR u=some x:=by
 cases x with
 |non=>cases r;rfl
 |bl _=>cases r;rfl
 |int _=>obtain⟨t,rfl⟩:=r;rfl
 |str _=>obtain⟨t,rfl⟩:=r;rfl
 |byt _=>obtain⟨t,rfl⟩:=r;rfl
 |flt _=>obtain⟨t,rfl⟩:=r;rfl
 |ref _=>cases r;rfl
 |ty _=>cases r;rfl
theorem Jo.inj{x y:V}{u:Value}(r:Jo x u)(q:Jo y u):x=y:=Option.some.inj (r.abs.symm.trans q.abs)
theorem ZY.inj:∀{xs ys:List V}{us:List Value},ZY xs us->ZY ys us->xs=ys
 |_,_,_,.nil,.nil=>rfl
 |_,_,_,.cons r t,.cons r' t'=>by rw[r.inj r',ZY.inj t t']
section
variable {X:Cx}{pins:List (Addr×Obj)}{σ:St}{H:Hp}{s:Shared}{a:Addr}{xs ys:List V}
theorem SqL.of{K:W.Frag}(h:H a=some (.lst xs)):SqL K H a xs:=.inl (.inl h)
theorem Inv.list(I:Inv X pins σ H s)(h:SqL X.K H a xs):∃its:List Value,ZY xs its/\PlainL s.heap a its.toArray/\xs.length<=sizeLine:=by
 rcases h with h|⟨o,its,n,hk,hc,hd,hs,hz,r⟩
 ·obtain⟨z,its,n,r,e⟩:=h.ok I.hok
  exact⟨its,r,⟨_,n,e,rfl,rfl,rfl⟩,z⟩
 ·refine⟨its.toList,r,⟨o,n,I.kIn a o hk,hc,hd,by simpa using hs⟩, ?_⟩
  have e:=r.length
  simp only[ZsP] at e
  omega
theorem Inv.tuple(I:Inv X pins σ H s)(h:SqT X.K H a xs):∃its:List Value,ZY xs its/\IsTup s.heap a its.toArray/\xs.length<=sizeLine:=by
 rcases h with h|⟨o,its,n,hk,hc,hs,hz,r⟩
 ·obtain⟨z,its,r,p⟩:=h.ok I.hok
  exact⟨its,r,p,z⟩
 ·refine⟨its.toList,r,⟨o,I.kIn a o hk,hc,n,by simpa using hs⟩, ?_⟩
  have e:=r.length
  simp only[ZsP] at e
  omega
theorem Inv.list_inj(I:Inv X pins σ H s)(h:SqL X.K H a xs)(h':SqL X.K H a ys):xs=ys:=by
 obtain⟨its,r,⟨o,n,e,_,_,d⟩,_⟩:=I.list h
 obtain⟨its',r',⟨o',n',e',_,_,d'⟩,_⟩:=I.list h'
 rw[e] at e';cases e'
 rw[d] at d'
 injection d' with d1 _
 have:its=its':=by simpa using congrArg Array.toList d1
 subst this
 exact r.inj r'
theorem Inv.tuple_inj(I:Inv X pins σ H s)(h:SqT X.K H a xs)(h':SqT X.K H a ys):xs=ys:=by
 obtain⟨its,r,⟨o,e,_,n,d⟩,_⟩:=I.tuple h
 obtain⟨its',r',⟨o',e',_,n',d'⟩,_⟩:=I.tuple h'
 rw[e] at e';cases e'
 rw[d] at d'
 injection d' with d1 _
 have:its=its':=by simpa using congrArg Array.toList d1
 subst this
 exact r.inj r'
end
noncomputable abbrev Cx.wish(X:Cx)(E:Value->Shared->Prop):Cx:={ X with xe:=E }
noncomputable abbrev Cx.nox(X:Cx):Cx:=X.wish fun _ _=>False
theorem Cx.Ok.wish{X:Cx}(ok:X.Ok)(E:Value->Shared->Prop):(X.wish E).Ok:=
 ⟨ok.mod,ok.kind,ok.glob,ok.blt,ok.above,ok.inj,ok.has,ok.cab,ok.hd,ok.frames,ok.stk,ok.exf,ok.bs,ok.bsz,ok.noex,ok.exfs,ok.funs,ok.frf,ok.tab⟩
theorem Cx.Ok.unwish{X:Cx}{E:Value->Shared->Prop}(ok:(X.wish E).Ok):X.Ok:=
 ⟨ok.mod,ok.kind,ok.glob,ok.blt,ok.above,ok.inj,ok.has,ok.cab,ok.hd,ok.frames,ok.stk,ok.exf,ok.bs,ok.bsz,ok.noex,ok.exfs,ok.funs,ok.frf,ok.tab⟩
section
variable {X:Cx}{pins:List (Addr×Obj)}{σ:St}{H:Hp}{s:Shared}{E:Value->Shared->Prop}
theorem Inv.wish(I:Inv X pins σ H s)(E:Value->Shared->Prop):Inv (X.wish E) pins σ H s:=⟨I.ok.wish E,I.os,I.bare,I.base,I.loc,I.cell,I.free,I.freeC,I.pin,I.hok,I.len⟩
theorem Inv.unwish(I:Inv (X.wish E) pins σ H s):Inv X pins σ H s:=⟨I.ok.unwish,I.os,I.bare,I.base,I.loc,I.cell,I.free,I.freeC,I.pin,I.hok,I.len⟩
theorem SP.unwish{D:Ziy}{f:Flow}{s':Shared}(h:SP (X.wish E) pins D f s'):SP X pins D f s':=by
 cases f with
 |next=>obtain⟨σ',H',I,q⟩:=h;exact⟨σ',H',I.unwish,q⟩
 |brk=>obtain⟨σ',H',I,q⟩:=h;exact⟨σ',H',I.unwish,q⟩
 |cont=>obtain⟨σ',H',I,q⟩:=h;exact⟨σ',H',I.unwish,q⟩
 |ret u=>obtain⟨v,σ',H',I,r,q⟩:=h;exact⟨v,σ',H',I.unwish,r,q⟩
theorem PSs.nox{st:List Stmt}{t:TS}(h:PSs X.nox st t):PSs X st t:=fun pins s σ H D I hw =>
 wpAny_mono (h pins s σ H D (I.wish _) hw) (fun _ _ q=>q.unwish) fun _ _ z=>False.elim z
end
section
variable {X:Cx}{st:Stmt}{ZgK:List Stmt}{t u:TS}{e:Expr}{te:TE}{pos:Pos}
noncomputable def ZkQ:TS:=fun D σ H=>D.nx σ H
noncomputable def Znu(t u:TS):TS:=fun D σ H=>t { D with nx:=u D } σ H
theorem ZF:PSs X [] ZkQ:=fun _ _ σ H _ I h=>wpAny_execs_nil ⟨σ,H,I,h⟩
theorem Zd(h1:PS X st t)(h2:PSs X ZgK u):PSs X (st::ZgK) (Znu t u):=by
 intro pins s σ H D I h
 refine wpAny_execs_cons (thn (h1 pins s σ H { D with nx:=u D } I h) fun f s1 q=>?_)
 cases f with
 |next =>
  obtain⟨σ',H',I',q⟩:=q
  exact h2 pins s1 σ' H' D I' q
 |ret v=>exact q
 |brk=>exact q
 |cont=>exact q
theorem Zl(h1:PS X st t):PSs X [st] t:=by
 intro pins s σ H D I h
 refine wpAny_execs_cons (thn (h1 pins s σ H D I h) fun f s1 q=>?_)
 cases f with
 |next=>exact wpAny_execs_nil q
 |ret v=>exact q
 |brk=>exact q
 |cont=>exact q
theorem Inv.quiet{pins:List (Addr×Obj)}{σ:St}{H:Hp}{s:Shared}(I:Inv X pins σ H s):interactive X.env=false:=by simp[interactive,I.ok.kind]
noncomputable def ZgW(te:TE):TS:=fun D σ H=>te σ H fun _ H1=>D.nx σ H1
theorem JL(he:PE X e te)(hs:swapsWith e none pos.line X.env=pure false:=by rfl):PS X (.Expr e pos) (ZgW te):=by
 intro pins s σ H D I h
 exact wpAny_Expr_any (thn (he pins s σ H _ I h) fun v s1 ⟨x,H1,I1,r1,q1⟩=>⟨σ,H1,I1,q1⟩) I.quiet hs
noncomputable def Zmx(te:TE):TS:=fun D σ H=>te σ H D.rt
theorem Z0(he:PE X e te):PS X (.Return (some e) pos) (Zmx te):=by
 intro pins s σ H D I h
 exact wpAny_Return_some (thn (he pins s σ H _ I h) fun v s1 ⟨x,H1,I1,r1,q1⟩=>⟨x,σ,H1,I1,r1,q1⟩)
noncomputable def Znw(c:TT)(t u:TS):TS:=fun D σ H=>c σ H fun b H1=>if b=true then t D σ H1 else u D σ H1
theorem Jv{c:Expr}{a b:List Stmt}{tc:TT}(hc:PT X c tc)(ha:PSs X a t)(hb:PSs X b u):PS X (.If c a b pos) (Znw tc t u):=by
 intro pins s σ H D I h
 refine wpAny_If (thn (hc pins s σ H _ I h) fun d s1 ⟨H1,I1,q1⟩=>?_)
 cases d with
 |true=>exact ha pins s1 σ H1 D I1 q1
 |false=>exact hb pins s1 σ H1 D I1 q1
noncomputable def Zi4:TS:=fun _ _ _=>False
theorem U4:PS X st Zi4:=fun _ _ _ _ _ _ h=>h.elim
end
noncomputable abbrev TG:=V->St->Hp->(St->Hp->Prop)->Prop
noncomputable abbrev TGs:=List V->St->Hp->(St->Hp->Prop)->Prop
def PG(X:Cx)(target:Expr)(t:TG):Prop:=
 ∀(pins:List (Addr×Obj)) (s:Shared) (σ:St) (H:Hp) (v:V) (u:Value) (Q:St->Hp->Prop),Inv X pins σ H s->Jo v u->t v σ H Q ->
  wpAny (model X.prog X.w) X.A (assign target X.env u) (fun _ s'=>∃σ' H',Inv X pins σ' H' s'/\Q σ' H') X.xe s
def PGs(X:Cx)(ts:List Expr)(t:TGs):Prop:=
 ∀(pins:List (Addr×Obj)) (s:Shared) (σ:St) (H:Hp) (vs:List V) (us:List Value) (Q:St->Hp->Prop),Inv X pins σ H s->ZY vs us->t vs σ H Q ->
  wpAny (model X.prog X.w) X.A (assignInOrder ((assignEach ts X.env).map (·.2)) us) (fun _ s'=>∃σ' H',Inv X pins σ' H' s'/\Q σ' H') X.xe s
noncomputable abbrev Zmq:=V->V->V->Hp->(Hp->Prop)->Prop
def Znn(X:Cx)(t:Zmq):Prop:=
 ∀(pins:List (Addr×Obj)) (s:Shared) (σ:St) (H:Hp) (o i v:V) (ov iv u:Value) (Q:Hp->Prop),Inv X pins σ H s->Jo o ov->Jo i iv->Jo v u->t o i v H Q ->
  wpAny (model X.prog X.w) X.A (setItem ov iv u) (fun _ s'=>∃H',Inv X pins σ H' s'/\Q H') X.xe s
noncomputable abbrev TIp:=V->V->Hp->VK->Prop
def PIp(X:Cx)(op:Operator)(t:TIp):Prop:=
 ∀(pins:List (Addr×Obj)) (s:Shared) (σ:St) (H:Hp) (x y:V) (v u:Value) (Q:VK),Inv X pins σ H s->Jo x v->Jo y u->t x y H Q ->
  wpAny (model X.prog X.w) X.A (inplaceOp op v u) (EP X pins σ Q) X.xe s
section
variable {X:Cx}{pos:Pos}
noncomputable def UE(i:Nat):TG:=fun v σ H Q=>Q (σ.set i (some v)) H
theorem ZW{i:Nat}{x:Str}(hN:X.N.Nodup)(hi:X.N[i]?=some x)(hx:Loc X.env.scope x)(hf:X.fn x=true\/X.env.scope.names.lookup x=some .local:=by first|exact .inl rfl|exact .inr rfl|assumption):PG X (.Name x pos) (UE i):=by
 intro pins s σ H v u Q I r h
 exact wpAny_assign_Name (Qk I hN hi hx r (fun s' I'=>⟨_,H,I',h⟩) hf)
noncomputable def Znc:TGs:=fun vs σ H Q=>vs=[]/\Q σ H
noncomputable def ZhW(t:TG)(u:TGs):TGs:=fun vs σ H Q=>∃v r,vs=v::r/\t v σ H fun σ' H'=>u r σ' H' Q
theorem Zc9:PGs X [] Znc:=by
 intro pins s σ H vs us Q I r h
 obtain⟨e,h⟩:=h
 subst e
 cases r
 exact assignInOrder_nil ⟨σ,H,I,h⟩
theorem VM{e:Expr}{es:List Expr}{t:TG}{u:TGs}(h1:PG X e t)(h2:PGs X es u)(hs:(assignEach (e::es) X.env).map (·.2)=assign e X.env::(assignEach es X.env).map (·.2):=by rfl):PGs X (e::es) (ZhW t u):=by
 intro pins s σ H vs us Q I r h
 obtain⟨v,vr,e1,h⟩:=h
 subst e1
 cases r with
 |cons r rr =>
  rw[hs]
  refine assignInOrder_cons (thn (h1 pins s σ H _ _ _ I r h) fun _ s1 ⟨σ1,H1,I1,q1⟩=>?_)
  exact h2 pins s1 σ1 H1 _ _ Q I1 rr q1
noncomputable def Zna(K:W.Frag)(n:Nat)(t:TGs):TG:=fun v σ H Q=>∃a xs,v=.ref a/\SqT K H a xs/\xs.length=n/\t xs σ H Q
theorem Zfs{es:List Expr}{k:Nat}{t:TGs}{n:Nat}(hc:X.calm=true)(h:PGs X es t)(hn:(assignEach es X.env).length=n:=by rfl)(hst:(assignEach es X.env).findIdx? (·.1)=none:=by rfl):PG X (.Tuple es k pos) (Zna X.K n t):=by
 intro pins s σ H v u Q I r hw
 obtain⟨a,xs,e1,hq,hl,hw⟩:=hw
 subst e1
 cases r
 obtain⟨its,rv,ht,hz⟩:=I.tuple hq
 refine assign_Tuple_tuple (I.ok.hd hc) ht (by simp[hn,<- hl,rv.length]) hst fun h' hx=>?_
 have I1:Inv X pins σ H { s with heap:=h' }:=I.kept (t':=s.toks) fun b o e=>hx b o (Ztm (Heap.lt_size e)) e
 exact h pins _ σ H xs _ Q I1 (by simpa using rv) hw
noncomputable def ZnA(to ti:TE)(t:Zmq):TG:=fun v σ H Q=>to σ H fun o H1=>ti σ H1 fun i H2=>t o i v H2 fun H3=>Q σ H3
theorem Zap{o i:Expr}{to ti:TE}{t:Zmq}(ho:PE X o to)(hi:PE X i ti)(hs:Znn X t)(ha:∀v,assign (.Subscript o i pos) X.env v=(do
   let ov <- holding [v] (eval o X.env)
   let iv <- holding [v,ov] (eval i X.env)
   standAt pos
   holding [v,ov,iv] (setItem ov iv v)
   release [v,ov,iv] []):=by exact fun _=>rfl):PG X (.Subscript o i pos) (ZnA to ti t):=by
 intro pins s σ H v u Q I r h
 rw[ha]
 refine wpAny_bind (wpAny_holding (thn (ho pins s σ H _ I h) fun ov s1 ⟨x,H1,I1,r1,q1⟩=>?_))
 refine wpAny_bind (wpAny_holding (thn (hi pins s1 σ H1 _ I1 q1) fun iv s2 ⟨y,H2,I2,r2,q2⟩=>?_))
 refine wpAny_bind (wpAny_standAt (wpAny_bind (wpAny_holding (thn (hs pins s2 σ H2 x y v ov iv u _ I2 r1 r2 r q2) fun _ s3 ⟨H3,I3,q3⟩=>?_))))
 exact wpAny_release ⟨σ,H3,I3,q3⟩
noncomputable def Zi7(te:TE)(g:TG):TS:=fun D σ H=>te σ H fun x H1=>g x σ H1 D.nx
theorem UW{tg e:Expr}{te:TE}{g:TG}(he:PE X e te)(hg:PG X tg g)(hs:swapsWithSole [tg] e pos.line X.env=pure false:=by rfl)(hw:swappedStores [tg] e X.env=pure none:=by rfl)(h1:(assignEach [tg] X.env).map (·.2)=[assign tg X.env]:=by rfl):PS X (.Assign [tg] e pos) (Zi7 te g):=by
 intro pins s σ H D I h
 refine wpAny_Assign_stores (thn (he pins s σ H _ I h) fun v s1 ⟨x,H1,I1,r1,q1⟩=>?_) hs hw
 rw[h1]
 exact thn (hg pins s1 σ H1 x v _ I1 r1 q1) fun _ s2 q=>q
theorem Zz{i:Nat}{x:Str}{e:Expr}{te:TE}{pos':Pos}(hN:X.N.Nodup)(hi:X.N[i]?=some x)(hx:Loc X.env.scope x)(he:PE X e te)(hs:swapsWith e (some (.Name x pos')) pos.line X.env=pure false:=by rfl)(hf:X.fn x=true\/X.env.scope.names.lookup x=some .local:=by first|exact .inl rfl|exact .inr rfl|assumption) :
  PS X (.Assign [.Name x pos'] e pos) (Zi7 te (UE i)):=by
 intro pins s σ H D I h
 refine wpAny_Assign_Name (thn (he pins s σ H _ I h) fun v s1 ⟨y,H1,I1,r1,q1⟩=>?_) hs
 exact Qk I1 hN hi hx r1 (fun s2 I2=>⟨_,H1,I2,q1⟩) hf
noncomputable def Zny(i:Nat)(te:TE)(ti:TIp):TS:=fun D σ H=>∃x,σ[i]?=some (some x)/\te σ H fun y H1=>ti x y H1 fun z H2=>D.nx (σ.set i (some z)) H2
theorem Zlg{i:Nat}{x:Str}{e:Expr}{te:TE}{op:Operator}{ti:TIp}{pos':Pos}(hN:X.N.Nodup)(hi:X.N[i]?=some x)(hx:Loc X.env.scope x)(he:PE X e te)(ho:PIp X op ti)(hf:X.fn x=true\/X.env.scope.names.lookup x=some .local:=by first|exact .inl rfl|exact .inr rfl|assumption) :
  PS X (.AugAssign (.Name x pos') op e pos) (Zny i te ti):=by
 intro pins s σ H D I h
 obtain⟨v,e1,h⟩:=h
 obtain⟨m,hn,hl⟩:=I.loc
 have vis:Vis X.env.scope x:=by rcases hx with k|k;exact .inl k;exact .inr (.inl k)
 obtain⟨u,r,l⟩:=hl i x v hi e1 vis
 refine wpAny_AugAssign_Name ?_
 have go:wpAny (model X.prog X.w) X.A (eval e X.env) (fun w s₂=>wpAny (model X.prog X.w) X.A (inplaceOp op u w) (fun r s₃=>wpAny (model X.prog X.w) X.A (storeName X.env x r) (fun _=>SP X pins D .next) X.xe s₃) X.xe s₂) X.xe s:=by
  refine thn (he pins s σ H _ I h) fun w s1 ⟨y,H1,I1,r1,q1⟩=>?_
  refine thn (ho pins s1 σ H1 v y u w _ I1 r r1 q1) fun z s2 ⟨zv,H2,I2,r2,q2⟩=>?_
  exact Qk I2 hN hi hx r2 (fun s3 I3=>⟨_,H2,I3,q2⟩) hf
 rcases l with ⟨hk,hm⟩|⟨hk,c,hc,hcell⟩
 ·exact wpAny_loadName_local I.ok.kind hk hn hm go
 ·rcases hk with hk|hk
  ·exact wpAny_loadName_cell I.ok.kind hk hc hcell go
  ·rcases hx with k|k
   ·have:X.env.scope.names.lookup x=some .free:=hk
    rw[k] at this;cases this
   ·have:X.env.scope.names.lookup x=some .free:=hk
    rw[k] at this;cases this
noncomputable def ZkV(to ti te:TE)(tget:V->V->Hp->VK->Prop)(tip:TIp)(tset:Zmq):TS:=fun D σ H=>to σ H fun o H1=>ti σ H1 fun i H2=>tget o i H2 fun x H3=>te σ H3 fun y H4=>tip x y H4 fun z H5=>tset o i z H5 fun H6=>D.nx σ H6
def Zno(X:Cx)(t:V->V->Hp->VK->Prop):Prop:=
 ∀(pins:List (Addr×Obj)) (s:Shared) (σ:St) (H:Hp) (o i:V) (ov iv:Value) (Q:VK),Inv X pins σ H s->Jo o ov->Jo i iv->t o i H Q ->
  wpAny (model X.prog X.w) X.A (getItem ov iv) (EP X pins σ Q) X.xe s
theorem Zj5{o i e:Expr}{to ti te:TE}{tget:V->V->Hp->VK->Prop}{tip:TIp}{tset:Zmq}{op:Operator}{tpos:Pos}(ho:PE X o to)(hi:PE X i ti)(hg:Zno X tget)(he:PE X e te)(hp:PIp X op tip)(hs:Znn X tset)(ha:∀ov iv new,augStore i ov iv new=(do holding [new,ov,iv] (setItem ov iv new);release [new,ov,iv] [];pure .next):=by intros;rfl):PS X (.AugAssign (.Subscript o i tpos) op e pos) (ZkV to ti te tget tip tset):=by
 intro pins s σ H D I h
 refine wpAny_AugAssign_SubscriptAny (thn (ho pins s σ H _ I h) fun ov s1 ⟨x1,H1,I1,r1,q1⟩=>?_) ha
 refine thn (hi pins s1 σ H1 _ I1 q1) fun iv s2 ⟨x2,H2,I2,r2,q2⟩=>?_
 refine thn (hg pins s2 σ H2 x1 x2 ov iv _ I2 r1 r2 q2) fun old s3 ⟨x3,H3,I3,r3,q3⟩=>?_
 refine thn (he pins s3 σ H3 _ I3 q3) fun v s4 ⟨x4,H4,I4,r4,q4⟩=>?_
 refine thn (hp pins s4 σ H4 x3 x4 old v _ I4 r3 r4 q4) fun new s5 ⟨x5,H5,I5,r5,q5⟩=>?_
 exact thn (hs pins s5 σ H5 x1 x2 x5 ov iv new _ I5 r1 r2 r5 q5) fun _ s6 ⟨H6,I6,q6⟩=>⟨σ,H6,I6,q6⟩
noncomputable def ipI(f:Int->Int->Int):TIp:=fun x y H Q=>∃i j,x=.int i/\y=.int j/\Q (.int (f i j)) H
theorem ZiQ:PIp X .Add (ipI fun i j=>i+j):=by
 intro pins s σ H x y v u Q I r1 r2 h
 obtain⟨i,j,e1,e2,q⟩:=h
 subst e1;subst e2
 obtain⟨t,rfl⟩:=r1
 obtain⟨t',rfl⟩:=r2
 exact iadd_int ⟨.int _,H,I.tok _,⟨_,rfl⟩,q⟩
noncomputable def Zi3(c:TT)(tb:TS):TS:=fun D σ H=>∃W:Nat->St->Hp->Prop,(∃m,W m σ H)/\∀m σ H,W m σ H ->
 c σ H fun b H1=>if b=true then ∃N:St->Hp->Prop,(∀σ' H',N σ' H'->∃m',m'<m/\W m' σ' H')/\tb { D with nx:=N,ct:=N,bk:=D.nx } σ H1 else D.nx σ H1
theorem ZaI{c:Expr}{body:List Stmt}{tc:TT}{tb:TS}(hp:PassesOwn (model X.prog X.w) X.A X.env X.xe)(hc:PT X c tc)(hb:PSs X body tb):PS X (.While c body [] pos) (Zi3 tc tb):=by
 intro pins s σ H D I h
 obtain⟨W,⟨m0,w0⟩,turn⟩:=h
 refine wpAny_While (codeAny_whileLoop (fun n s'=>∃σ' H',Inv X pins σ' H' s'/\W n σ' H') ?_ m0 ⟨σ,H,I,w0⟩)
 rintro n s1 ⟨σ1,H1,I1,w1⟩
 refine wpAny_passesOwn hp (thn (hc pins s1 σ1 H1 _ I1 (turn n σ1 H1 w1)) fun b s2 ⟨H2,I2,q2⟩=>?_)
 cases b with
 |true =>
  obtain⟨N,hN,q2⟩:=q2
  rw[if_pos rfl]
  refine wpAny_passesOwn hp (thn (hb pins s2 σ1 H2 _ I2 q2) fun f s3 q3=>?_)
  cases f with
  |next =>
   obtain⟨σ3,H3,I3,n3⟩:=q3
   obtain⟨m',hm,w3⟩:=hN σ3 H3 n3
   exact⟨m',hm,σ3,H3,I3,w3⟩
  |cont =>
   obtain⟨σ3,H3,I3,n3⟩:=q3
   obtain⟨m',hm,w3⟩:=hN σ3 H3 n3
   exact⟨m',hm,σ3,H3,I3,w3⟩
  |brk=>exact q3
  |ret v=>exact q3
 |false =>
  rw[if_neg Bool.false_ne_true]
  exact wpAny_execs_nil ⟨σ1,H2,I2,q2⟩
end
structure It where
 go:Nat->Hp->Prop
 yld:Nat->Hp->V->Hp->Prop
 stop:Nat->Hp->Prop
def ZgG(X:Cx)(pins:List (Addr×Obj))(H:Hp)(b:Addr):Prop:=
 H b=none/\b≠X.env.locals/\b ∉ X.fs/\(b∈X.ex\/X.s₀.heap.objs.size<=b)/\(∀x c,X.env.cells.lookup x=some c->c≠b)/\∀p∈X.pn++pins,p.1≠b
theorem Inv.fpOk{X:Cx}{pins:List (Addr×Obj)}{σ:St}{H H':Hp}{s:Shared}{b:Addr}(I:Inv X pins σ H s)(hb:s.heap.objs.size<=b)(hn:H' b=none):ZgG X pins H' b:=by
 refine⟨hn,ZuA (Ztb I.lt hb),I.nofs hb,.inr (Zth I.sz hb),fun x c e z=>?_,fun p hp z=>?_⟩
 ·obtain⟨v,q⟩:=I.cell x c e
  exact absurd (Ztb q.lt (by rw[z];exact hb)) (ZtG _)
 ·exact absurd (Ztb (Heap.lt_size (I.pin p hp).1) (by rw[z];exact hb)) (ZtG _)
structure ZkD(P:Program)(w:World)(K:PySem.W.Frag)(tg:Expr)(J:It)(fp:List Addr)(it:Addr)(tn:Nat->Heap->Prop):Prop where
 mem:it∈fp
 obj:∀i h,tn i h->∀b∈fp,∃o,h.get? b=some o/\∀v,o.data≠.cell v
 keep:∀i h h',tn i h->(∀b∈fp,∀o,h.get? b=some o->h'.get? b=some o)->tn i h'
 item:∀(X:Cx),X.prog=P->X.w=w->X.K=K->X.calm=true->∀(i:Nat) (pins:List (Addr×Obj)) (s:Shared) (σ:St) (H:Hp) (E:Value->Shared->Prop),Inv X pins σ H s->(∀b∈fp,ZgG X pins H b)->tn i s.heap->J.go i H ->
  wpAny (model P w) X.A (pyNext (.ref it)) (fun r s1=>∃u,r=some u /\
   wpAny (model P w) X.A (letOwnedTupleGo tg (.ref it) u) (fun _ s2=>∃x H',Inv X pins σ H' s2/\Jo x u/\J.yld i H x H'/\tn (i+1) s2.heap/\∀b∈fp,H' b=none) E s1) E s
 done:∀(X:Cx),X.prog=P->X.w=w->X.K=K->X.calm=true->∀(i:Nat) (pins:List (Addr×Obj)) (s:Shared) (σ:St) (H:Hp) (E:Value->Shared->Prop),Inv X pins σ H s->(∀b∈fp,ZgG X pins H b)->tn i s.heap->J.stop i H ->
  wpAny (model P w) X.A (pyNext (.ref it)) (fun r s1=>r=none/\Inv X pins σ H s1) E s
 self:∀(A:Around) (i:Nat) (s:Shared) (Q:Value->Shared->Prop) (E:Value->Shared->Prop),tn i s.heap->Q (.ref it) s->wpAny (model P w) A (pyIter (.ref it)) Q E s
noncomputable abbrev TI:=St->Hp->(It->Hp->Prop)->Prop
def PIE(X:Cx)(pins:List (Addr×Obj))(σ:St)(tg:Expr)(R:It->Hp->Prop)(itv:Value)(s2:Shared):Prop:=
 ∃(it:Addr) (fp:List Addr) (tn:Nat->Heap->Prop) (J:It) (H':Hp),itv=.ref it/\Inv X pins σ H' s2/\ZkD X.prog X.w X.K tg J fp it tn/\tn 0 s2.heap/\(∀b∈fp,ZgG X pins H' b)/\R J H'
def PI(X:Cx)(tg iter:Expr)(wi:TI):Prop:=
 ∀(pins:List (Addr×Obj)) (s:Shared) (σ:St) (H:Hp) (R:It->Hp->Prop),Inv X pins σ H s->wi σ H R ->
  wpAny (model X.prog X.w) X.A (eval iter X.env) (fun v s1=>wpAny (model X.prog X.w) X.A (pyIter v) (PIE X pins σ tg R) X.xe s1) X.xe s
theorem Zki{M:Model}{A:Around}{E:Value->Shared->Prop}{s:Shared}{tg:Expr}{it:Addr}{u:Value}{o:Obj}{n:String}{vs:Array Value}{Q:Unit->Shared->Prop}(ho:s.heap.get? it=some o)(hc:o.cls=.type n)(hd:o.data=.fields vs)(hn:["enumerate", "zip", "dict_itemiterator", "dict_reverseitemiterator", "odict_iterator", "itertools.zip_longest", "itertools.pairwise"].contains n=false)(hQ:Q () s):wpAny M A (letOwnedTupleGo tg (.ref it) u) Q E s:=by
 unfold letOwnedTupleGo
 cases tg<;>first
  |exact wpAny_pure hQ
  |(cases u<;>first
    |exact wpAny_pure hQ
    |(refine wpAny_bind (wpAny_load ho ?_)
      rw[hc,hd]
      show wpAny M A (if (["enumerate", "zip", "dict_itemiterator", "dict_reverseitemiterator", "odict_iterator", "itertools.zip_longest", "itertools.pairwise"].contains n&&vs[0]?==some (rawInt _))=true then _ else _) Q E s
      rw[if_neg (by intro h;rw[hn,Bool.false_and] at h;cases h)]
      exact wpAny_pure hQ))
noncomputable def Itl(K:W.Frag)(a:Addr):It:=
 ⟨fun i H=>∃xs x,SqL K H a xs/\xs[i]?=some x,fun i H x H'=>H'=H/\∀xs,SqL K H a xs->xs[i]?=some x,fun i H=>∃xs,SqL K H a xs/\xs.length<=i⟩
noncomputable def Itt(K:W.Frag)(a:Addr):It:=
 ⟨fun i H=>∃xs x,SqT K H a xs/\xs[i]?=some x,fun i H x H'=>H'=H/\∀xs,SqT K H a xs->xs[i]?=some x,fun i H=>∃xs,SqT K H a xs/\xs.length<=i⟩
noncomputable def Itr(lo:Int)(n:Nat):It:=⟨fun i _=>i<n,fun i H x H'=>H'=H/\x=.int (lo+i),fun i _=>n<=i⟩
theorem ZeR{P:Program}{w:World}{K:W.Frag}{tg:Expr}(a it:Addr):ZkD P w K tg (Itl K a) [it] it (fun i h=>h.IsListIter it a i) where
 mem:=by simp
 obj:=fun i h st b hb=>by
  have e:b=it:=by simpa using hb
  subst e
  obtain⟨o,e,c,d⟩:=st
  exact⟨o,e,fun v z=>by rw[d] at z;cases z⟩
 keep:=fun i h h' st k=>st.at fun o e=>k it (by simp) o e
 item:=by
  intro X hP hw hK hc i pins s σ H E I hf st hg
  subst hP hw hK
  obtain⟨xs,x,hq,hx⟩:=hg
  obtain⟨its,rv,p,hz⟩:=I.list hq
  obtain⟨u,hu,ru⟩:=rv.get hx
  obtain⟨f0,f1,f2,f3,f4,f5⟩:=hf it (by simp)
  refine wpAny_pyNext_list_item st p.isList (x:=u) (by simpa using hu) fun h' st' sb=>?_
  have I1:Inv X pins σ H { s with heap:=h' }:=I.turned (t':=s.toks) (fun b o hb e=>(sb.2 b hb).trans e) f0 f1 f3 f4 f5
  obtain⟨o,e,c,d⟩:=id st'
  exact⟨u,rfl,Zki (s:={ s with heap:=h' }) e c d (by decide) ⟨x,H,I1,ru,⟨rfl,fun ys hy=>by rw[I.list_inj hy hq];exact hx⟩,st',fun b hb=>(hf b hb).1⟩⟩
 done:=by
  intro X hP hw hK hc i pins s σ H E I hf st hg
  subst hP hw hK
  obtain⟨xs,hq,hx⟩:=hg
  obtain⟨its,rv,p,hz⟩:=I.list hq
  obtain⟨f0,f1,f2,f3,f4,f5⟩:=hf it (by simp)
  have hl:=rv.length
  exact wpAny_pyNext_list_end (I.ok.hd hc) st p.isList (by simp;omega) fun h' eb=>⟨rfl,I.turned (t':=s.toks) (fun b o hb e=>eb b o hb e) f0 f1 f3 f4 f5⟩
 self:=fun _ _ _ _ _ st h=>wpAny_pyIter_listiter st h
theorem Zep{P:Program}{w:World}{K:W.Frag}{tg:Expr}(a it:Addr):ZkD P w K tg (Itt K a) [it] it (fun i h=>h.IsTupleIter it a i) where
 mem:=by simp
 obj:=fun i h st b hb=>by
  have e:b=it:=by simpa using hb
  subst e
  obtain⟨o,e,c,d⟩:=st
  exact⟨o,e,fun v z=>by rw[d] at z;cases z⟩
 keep:=fun i h h' st k=>st.at fun o e=>k it (by simp) o e
 item:=by
  intro X hP hw hK hc i pins s σ H E I hf st hg
  subst hP hw hK
  obtain⟨xs,x,hq,hx⟩:=hg
  obtain⟨its,rv,p,hz⟩:=I.tuple hq
  obtain⟨u,hu,ru⟩:=rv.get hx
  obtain⟨f0,f1,f2,f3,f4,f5⟩:=hf it (by simp)
  refine wpAny_pyNext_tuple_item st (show s.heap.IsTuple a its.toArray from p) (x:=u) (by simpa using hu) fun h' st' sb=>?_
  have I1:Inv X pins σ H { s with heap:=h' }:=I.turned (t':=s.toks) (fun b o hb e=>(sb.2 b hb).trans e) f0 f1 f3 f4 f5
  obtain⟨o,e,c,d⟩:=id st'
  exact⟨u,rfl,Zki (s:={ s with heap:=h' }) e c d (by decide) ⟨x,H,I1,ru,⟨rfl,fun ys hy=>by rw[I.tuple_inj hy hq];exact hx⟩,st',fun b hb=>(hf b hb).1⟩⟩
 done:=by
  intro X hP hw hK hc i pins s σ H E I hf st hg
  subst hP hw hK
  obtain⟨xs,hq,hx⟩:=hg
  obtain⟨its,rv,p,hz⟩:=I.tuple hq
  obtain⟨f0,f1,f2,f3,f4,f5⟩:=hf it (by simp)
  have hl:=rv.length
  exact wpAny_pyNext_tuple_end (I.ok.hd hc) st (show s.heap.IsTuple a its.toArray from p) (by simp;omega) fun h' eb=>⟨rfl,I.turned (t':=s.toks) (fun b o hb e=>eb b o hb e) f0 f1 f3 f4 f5⟩
 self:=fun _ _ _ _ _ st h=>wpAny_pyIter_tupleiter st h
theorem Zeq{P:Program}{w:World}{K:W.Frag}{tg:Expr}(it:Addr)(lo:Int)(n:Nat):ZkD P w K tg (Itr lo n) [it] it (fun i h=>IsRangeIter h it (lo+(i:Nat)*1) ((n:Int)-(i:Nat)) 1) where
 mem:=by simp
 obj:=fun i h st b hb=>by
  have e:b=it:=by simpa using hb
  subst e
  exact⟨_,st,fun v z=>by
   have z':Data.fields _=Data.cell v:=z
   cases z'⟩
 keep:=fun i h h' st k=>k it (by simp) _ st
 item:=by
  intro X hP hw hK hc i pins s σ H E I hf st hg
  subst hP hw hK
  obtain⟨f0,f1,f2,f3,f4,f5⟩:=hf it (by simp)
  have W:=Walks.range (prog:=X.prog) (w:=X.w) (I.ok.hd hc) it lo 1 n
  refine W.item i s _ _ hg st fun v h' tk hv st' kk=>?_
  obtain⟨t,rfl⟩:=hv
  have I1:Inv X pins σ H { s with heap:=h',toks:=tk }:=I.turned (fun b o hb e=>kk b o (by simpa using hb) e) f0 f1 f3 f4 f5
  refine⟨_,rfl,Zki (s:={ s with heap:=h',toks:=tk }) (n := "range_iterator") st' rfl rfl (by decide) ⟨.int (lo+i),H,I1,⟨t, ?_⟩,⟨rfl,rfl⟩,st',fun b hb=>(hf b hb).1⟩⟩
  rw[Int.mul_one]
 done:=by
  intro X hP hw hK hc i pins s σ H E I hf st hg
  subst hP hw hK
  obtain⟨f0,f1,f2,f3,f4,f5⟩:=hf it (by simp)
  exact wpAny_pyNext_range_end (I.ok.hd hc) st (by have:n<=i:=hg;omega) fun h' eb=>⟨rfl,I.turned (t':=s.toks) (fun b o hb e=>eb b o hb e) f0 f1 f3 f4 f5⟩
 self:=fun _ _ _ _ _ st h=>wpAny_pyIter_rangeiter st h
section
variable {X:Cx}{tg:Expr}
noncomputable def ZfX(K:W.Frag)(tl:TE):TI:=fun σ H R=>tl σ H fun x H1=>∃a,x=.ref a/\(∃xs,SqL K H1 a xs)/\R (Itl K a) H1
noncomputable def ZmZ(K:W.Frag)(tl:TE):TI:=fun σ H R=>tl σ H fun x H1=>∃a,x=.ref a/\(∃xs,SqT K H1 a xs)/\R (Itt K a) H1
theorem Zj8{l:Expr}{tl:TE}(hl:PE X l tl):PI X tg l (ZfX X.K tl):=by
 intro pins s σ H R I h
 refine thn (hl pins s σ H _ I h) fun v s1 ⟨x,H1,I1,r1,q1⟩=>?_
 obtain⟨a,e,⟨xs,hq⟩,q⟩:=q1
 subst e
 cases r1
 obtain⟨its,rv,p,hz⟩:=I1.list hq
 refine wpAny_pyIter_list p.isList ?_
 refine⟨s1.heap.objs.size,[s1.heap.objs.size],_,_,H1,rfl,I1.kept (t':=s1.toks) fun b o e=>Heap.get?_push_of_some _ e,ZeR a _,⟨_,Heap.get?_push_size _ rfl,rfl,rfl⟩,fun b hb=>?_,q⟩
 have e:b=s1.heap.objs.size:=by simpa using hb
 subst e
 exact I1.fpOk (ZsN _) (I1.hok.fresh (ZsN _))
theorem Zlh{l:Expr}{tl:TE}(hl:PE X l tl):PI X tg l (ZmZ X.K tl):=by
 intro pins s σ H R I h
 refine thn (hl pins s σ H _ I h) fun v s1 ⟨x,H1,I1,r1,q1⟩=>?_
 obtain⟨a,e,⟨xs,hq⟩,q⟩:=q1
 subst e
 cases r1
 obtain⟨its,rv,p,hz⟩:=I1.tuple hq
 refine wpAny_pyIter_tuple (show s1.heap.IsTuple a its.toArray from p) ?_
 refine⟨s1.heap.objs.size,[s1.heap.objs.size],_,_,H1,rfl,I1.kept (t':=s1.toks) fun b o e=>Heap.get?_push_of_some _ e,Zep a _,⟨_,Heap.get?_push_size _ rfl,rfl,rfl⟩,fun b hb=>?_,q⟩
 have e:b=s1.heap.objs.size:=by simpa using hb
 subst e
 exact I1.fpOk (ZsN _) (I1.hok.fresh (ZsN _))
theorem Zd5{pins:List (Addr×Obj)}{σ:St}{H:Hp}{s:Shared}{R:It->Hp->Prop}{E:Value->Shared->Prop}{lo hi:Int}{t u v:Tok}{tk:Nat}(I:Inv X pins σ H s)(h1:-(2^62)<=lo)(h2:lo<2^62)(h3:-(2^62)<=hi)(h4:hi<2^62)(q:R (Itr lo (hi-lo).toNat) H):wpAny (model X.prog X.w) X.A (pyIter (.ref s.heap.objs.size)) (PIE X pins σ tg R) E { s with heap:=s.heap.push { cls:=.type "range",data:=.fields #[.int lo t,.int hi u,.int 1 v] },toks:=tk }:=by
 refine wpAny_pyIter_range (IsRange.new ..) (small_one h1 h2 h3 h4) ?_
 have I1:Inv X pins σ H { s with heap:=s.heap.push { cls:=.type "range",data:=.fields #[.int lo t,.int hi u,.int 1 v] },toks:=tk }:=I.kept fun b o e=>Heap.get?_push_of_some _ e
 refine⟨(s.heap.push { cls:=.type "range",data:=.fields #[.int lo t,.int hi u,.int 1 v] }).objs.size,[(s.heap.push { cls:=.type "range",data:=.fields #[.int lo t,.int hi u,.int 1 v] }).objs.size],_,_,H,rfl,
  I1.kept (t':=tk) fun b o e=>Heap.get?_push_of_some _ e,Zeq _ lo (hi-lo).toNat, ?_,fun b hb=>?_,q⟩
 ·have e1:lo+((0:Nat):Int)*1=lo:=by simp
  have e2:(((hi-lo).toNat:Nat):Int)-((0:Nat):Int)=Builtin.Range.rangeSize lo hi 1:=by rw[rangeSize_one];split<;>omega
  show IsRangeIter _ _ (lo+((0:Nat):Int)*1) ((((hi-lo).toNat:Nat):Int)-((0:Nat):Int)) 1
  rw[e1,e2]
  exact Heap.get?_push_size _ rfl
 ·have e:b=(s.heap.push { cls:=.type "range",data:=.fields #[.int lo t,.int hi u,.int 1 v] }).objs.size:=by simpa using hb
  subst e
  exact I1.fpOk (ZsN _) (I1.hok.fresh (ZsN _))
noncomputable def ZlN(ta:TA):TI:=fun σ H R=>ta σ H fun vs H1=>∃j:Int,vs=[.int j]/\-(2^62)<=j/\j<2^62/\R (Itr 0 j.toNat) H1
noncomputable def ZlM(ta:TA):TI:=fun σ H R=>ta σ H fun vs H1=>∃i j:Int,vs=[.int i,.int j]/\(-(2^62)<=i/\i<2^62/\-(2^62)<=j/\j<2^62)/\R (Itr i (j-i).toNat) H1
theorem Jc{a:Expr}{ta:TA}{p pos:Pos}(hg:Gl X "range")(hm:X.mg "range"=none)(ha:PA X [a] ta)(hs:starEach [a] X.env=[(false,eval a X.env)]:=by rfl):PI X tg (.Call (.Name "range" p) [a] [] pos) (ZlN ta):=by
 intro pins s σ H R I h
 refine Call_ (UX I hg hm boot_range (PyProof.Rows.callWith_type1 (thn (ha pos pins s σ H _ I h) fun us s1 ⟨vs,H1,I1,r1,q1⟩=>?_) hs rfl))
 obtain⟨j,e,q1,q2,q⟩:=q1
 subst e
 cases r1 with
 |cons r rr =>
  cases rr
  obtain⟨t,rfl⟩:=r
  exact call_range_1 (Zd5 I1 (by omega) (by omega) q1 q2 (by simpa using q))
theorem ZbD{a b:Expr}{ta:TA}{p pos:Pos}(hg:Gl X "range")(hm:X.mg "range"=none)(ha:PA X [a,b] ta)(hs:starEach [a,b] X.env=[(false,eval a X.env),(false,eval b X.env)]:=by rfl)(hs2:starEach [b] X.env=[(false,eval b X.env)]:=by rfl) :
  PI X tg (.Call (.Name "range" p) [a,b] [] pos) (ZlM ta):=by
 intro pins s σ H R I h
 refine Call_ (UX I hg hm boot_range (PyProof.Rows.callWith_type1 (thn (ha pos pins s σ H _ I h) fun us s1 ⟨vs,H1,I1,r1,q1⟩=>?_) (by rw[hs,hs2]) (by rw[hs2];rfl)))
 obtain⟨i,j,e,⟨q1,q2,q3,q4⟩,q⟩:=q1
 subst e
 cases r1 with
 |cons r rr =>
  cases rr with
  |cons r' rr =>
   cases rr
   obtain⟨t,rfl⟩:=r
   obtain⟨t',rfl⟩:=r'
   exact call_range_2 (Zd5 I1 q1 q2 q3 q4 q)
noncomputable def Znx(wi:TI)(g:TG)(tb:TS):TS:=fun D σ H=>wi σ H fun J H1=>∃W:Nat->Nat->St->Hp->Prop,(∃m,W 0 m σ H1)/\∀i m σ H,W i m σ H ->
 (J.stop i H/\D.nx σ H)\/(J.go i H/\∃N:St->Hp->Prop,(∀σ' H',N σ' H'->∃m',m'<m/\W (i+1) m' σ' H')/\∀x H',J.yld i H x H'->g x σ H' fun σ2 H2=>tb { D with nx:=N,ct:=N,bk:=D.nx } σ2 H2)
noncomputable def Zd7(fp:List Addr)(h:Heap):List (Addr×Obj):=fp.filterMap fun b=>(h.get? b).map fun o=>(b,o)
theorem JI{fp:List Addr}{h:Heap}{b:Addr}{o:Obj}(hb:b∈fp)(e:h.get? b=some o):(b,o)∈Zd7 fp h:=List.mem_filterMap.mpr ⟨b,hb,by rw[e];rfl⟩
theorem Zf9{fp:List Addr}{h:Heap}{p:Addr×Obj}(hp:p∈Zd7 fp h):p.1∈fp/\h.get? p.1=some p.2:=by
 obtain⟨b,hb,e⟩:=List.mem_filterMap.mp hp
 cases q:h.get? b with
 |none=>rw[q] at e;cases e
 |some o =>
  rw[q] at e
  have e':(b,o)=p:=Option.some.inj e
  subst e'
  exact⟨hb,q⟩
theorem Inv.pinned{pins:List (Addr×Obj)}{σ:St}{H:Hp}{s:Shared}{fp:List Addr}(I:Inv X pins σ H s)(hf:∀b∈fp,ZgG X pins H b)(ho:∀b∈fp,∃o,s.heap.get? b=some o/\∀v,o.data≠.cell v):Inv X (pins++Zd7 fp s.heap) σ H s:=
 I.pins_of fun p hp=>(ZsO.mp hp).elim (fun z=>I.pin p (ZsL _ z)) fun z=>by
  obtain⟨hb,e⟩:=Zf9 z
  obtain⟨f0,f1,f2,_⟩:=hf p.1 hb
  obtain⟨o,e',d⟩:=ho p.1 hb
  rw[e] at e';cases e'
  exact⟨e,f0,f1,f2,d⟩
theorem Inv.unpinned{pins pl:List (Addr×Obj)}{σ:St}{H:Hp}{s:Shared}(I:Inv X (pins++pl) σ H s):Inv X pins σ H s:=I.pins_of fun p hp=>I.pin p (ZsL _ (ZsQ _ hp))
theorem JK{iter:Expr}{body:List Stmt}{wi:TI}{g:TG}{tb:TS}{pos:Pos}(hp:PassesOwn (model X.prog X.w) X.A X.env X.xe)(hc:X.calm=true)(hi:PI X tg iter wi)(hg:PG X tg g)(hb:PSs X body tb)(hs:∀x,foldedSetIterable iter X.env x=pure x:=by exact fun _=>rfl):PS X (.For tg iter body [] pos) (Znx wi g tb):=by
 intro pins s σ H D I h
 refine wpAny_For (thn (hi pins s σ H _ I h) fun v s1 h1=>thn h1 fun itv s2 h2=>?_) hs
 obtain⟨it,fp,tn,J,H2,e,I2,T,st2,f2,W,⟨m0,w0⟩,turn⟩:=h2
 subst e
 have stat:∀{H':Hp},(∀b∈fp,H' b=none)->∀b∈fp,ZgG X pins H' b:=fun hn b hb=>⟨hn b hb,(f2 b hb).2⟩
 refine codeAny_forLoop_any (fun n s'=>∃i σ' H',Inv X pins σ' H' s'/\tn i s'.heap/\(∀b∈fp,H' b=none)/\W i n σ' H') ?_ m0 ⟨0,σ,H2,I2,st2,fun b hb=>(f2 b hb).1,w0⟩
 rintro n s3 ⟨i,σ3,H3,I3,st3,fr3,w3⟩
 rcases turn i n σ3 H3 w3 with ⟨stop,qn⟩|⟨go,N,hN,step⟩
 ·refine wpAny_passesOwn hp (thn (T.done X rfl rfl rfl hc i pins s3 σ3 H3 X.xe I3 (stat fr3) st3 stop) fun r s4 ⟨hr,I4⟩=>?_)
  subst hr
  exact wpAny_execs_nil ⟨σ3,H3,I4,qn⟩
 ·refine wpAny_passesOwn hp (thn (T.item X rfl rfl rfl hc i pins s3 σ3 H3 X.xe I3 (stat fr3) st3 go) fun r s4 ⟨u,hr,h4⟩=>?_)
  subst hr
  refine wpAny_passesOwn hp (thn h4 fun _ s5 ⟨x,H5,I5,r5,y5,st5,fr5⟩=>?_)
  have I5':=I5.pinned (stat fr5) (T.obj _ _ st5)
  refine wpAny_passesOwn hp (thn (hg _ s5 σ3 H5 x u _ I5' r5 (step x H5 y5)) fun _ s6 ⟨σ6,H6,I6,q6⟩=>?_)
  refine wpAny_passesOwn hp (thn (hb _ s6 σ6 H6 _ I6 q6) fun f s7 q7=>?_)
  have again:∀{σ7:St}{H7:Hp},Inv X (pins++Zd7 fp s5.heap) σ7 H7 s7->N σ7 H7->∃m,m<n/\∃i σ' H',Inv X pins σ' H' s7/\tn i s7.heap/\(∀b∈fp,H' b=none)/\W i m σ' H':=fun {σ7 H7} I7 n7=>by
   obtain⟨m',hm,w7⟩:=hN σ7 H7 n7
   refine⟨m',hm,i+1,σ7,H7,I7.unpinned,T.keep _ _ _ st5 fun b hb o e=>(I7.pin (b,o) (ZsL _ (ZsL _ (JI hb e)))).1,fun b hb=>?_,w7⟩
   obtain⟨o,e,d⟩:=T.obj _ _ st5 b hb
   exact(I7.pin (b,o) (ZsL _ (ZsL _ (JI hb e)))).2.1
  cases f with
  |next=>obtain⟨σ7,H7,I7,n7⟩:=q7;exact again I7 n7
  |cont=>obtain⟨σ7,H7,I7,n7⟩:=q7;exact again I7 n7
  |brk=>obtain⟨σ7,H7,I7,q7⟩:=q7;exact⟨σ7,H7,I7.unpinned,q7⟩
  |ret v=>obtain⟨x7,σ7,H7,I7,r7,q7⟩:=q7;exact⟨x7,σ7,H7,I7.unpinned,r7,q7⟩
end
noncomputable abbrev R2:=V->V->Hp->VK->Prop
def OpR(X:Cx)(f:Value->Value->Sem Value)(r:R2):Prop:=
 ∀(pins:List (Addr×Obj)) (s:Shared) (σ:St) (H:Hp) (x y:V) (v u:Value) (Q:VK),Inv X pins σ H s->Jo x v->Jo y u->r x y H Q ->
  wpAny (model X.prog X.w) X.A (f v u) (EP X pins σ Q) X.xe s
def Vx(X:Cx)(f:Value)(r:List V->Hp->VK->Prop):Prop:=
 ∀(pins:List (Addr×Obj)) (s:Shared) (σ:St) (H:Hp) (xs:List V) (us:List Value) (Q:VK),Inv X pins σ H s->ZY xs us->r xs H Q ->
  wpAny (model X.prog X.w) X.A (call f us) (EP X pins σ Q) X.xe s
def ZnS(X:Cx)(r:V->Hp->(Bool->Hp->Prop)->Prop):Prop:=
 ∀(pins:List (Addr×Obj)) (s:Shared) (σ:St) (H:Hp) (x:V) (v:Value) (Q:Bool->Hp->Prop),Inv X pins σ H s->Jo x v->r x H Q ->
  wpAny (model X.prog X.w) X.A (truthy v) (TP X pins σ Q) X.xe s
noncomputable def tOp(r:R2)(ta tb:TE):TE:=fun σ H Q=>ta σ H fun x H1=>tb σ H1 fun y H2=>r x y H2 Q
noncomputable def rI(C:Int->Int->Prop)(g:Int->Int->V):R2:=fun x y H Q=>∃i j,x=.int i/\y=.int j/\C i j/\Q (g i j) H
noncomputable def rI0(g:Int->Int->V):R2:=fun x y H Q=>∃i j,x=.int i/\y=.int j/\Q (g i j) H
section
variable {X:Cx}{a b:Expr}{ta tb:TE}{pos:Pos}
theorem Znh(ha:PE X a ta)(hb:PE X b tb){pins:List (Addr×Obj)}{s:Shared}{σ:St}{H:Hp}{R:V->V->Hp->Prop}(I:Inv X pins σ H s)(h:ta σ H fun x H1=>tb σ H1 fun y H2=>R x y H2){Q:Value->Shared->Prop}{f:Value->Value->Sem Value}(hf:∀v u s2 x y H2,Inv X pins σ H2 s2->Jo x v->Jo y u->R x y H2->wpAny (model X.prog X.w) X.A (f v u) Q X.xe s2) :
  wpAny (model X.prog X.w) X.A (eval a X.env) (fun v s₁=>wpAny (model X.prog X.w) X.A (eval b X.env) (fun u s₂=>wpAny (model X.prog X.w) X.A (f v u) Q X.xe s₂) X.xe s₁) X.xe s:=by
 refine thn (ha pins s σ H _ I h) fun v s1 ⟨x,H1,I1,r1,q1⟩=>?_
 refine thn (hb pins s1 σ H1 _ I1 q1) fun u s2 ⟨y,H2,I2,r2,q2⟩=>?_
 exact hf v u s2 x y H2 I2 r1 r2 q2
theorem Z7{op:Operator}{r:R2}(ho:OpR X (binaryOp op) r)(ha:PE X a ta)(hb:PE X b tb):PE X (.BinOp a op b pos) (tOp r ta tb):=by
 intro pins s σ H Q I h
 exact wpAny_BinOp (Znh ha hb I h fun v u s2 x y H2 I2 rx ry q=>ho pins s2 σ H2 x y v u Q I2 rx ry q)
theorem opI{f:Value->Value->Sem Value}{C:Int->Int->Prop}{g:Int->Int->Int}(rule:∀(i j:Int) (t u:Tok) (s:Shared) (Q:Value->Shared->Prop) (E:Value->Shared->Prop),C i j->Q (.int (g i j) s.toks) { s with toks:=s.toks+1 }->wpAny (model X.prog X.w) X.A (f (.int i t) (.int j u)) Q E s) :
  OpR X f (rI C fun i j=>.int (g i j)):=by
 intro pins s σ H x y v u Q I rx ry h
 obtain⟨i,j,rfl,rfl,hc,q⟩:=h
 obtain⟨t,rfl⟩:=rx
 obtain⟨t',rfl⟩:=ry
 exact rule i j t t' s _ _ hc ⟨.int (g i j),H,I.tok _,⟨_,rfl⟩,q⟩
theorem Zn7{f:Value->Value->Sem Value}{g:Int->Int->Int}(rule:∀(i j:Int) (t u:Tok) (s:Shared) (Q:Value->Shared->Prop) (E:Value->Shared->Prop),Q (.int (g i j) s.toks) { s with toks:=s.toks+1 }->wpAny (model X.prog X.w) X.A (f (.int i t) (.int j u)) Q E s) :
  OpR X f (rI0 fun i j=>.int (g i j)):=by
 intro pins s σ H x y v u Q I rx ry h
 obtain⟨i,j,rfl,rfl,q⟩:=h
 obtain⟨t,rfl⟩:=rx
 obtain⟨t',rfl⟩:=ry
 exact rule i j t t' s _ _ ⟨.int (g i j),H,I.tok _,⟨_,rfl⟩,q⟩
theorem Zm1{f:Value->Value->Sem Value}{g:Int->Int->Bool}(rule:∀(i j:Int) (t u:Tok) (s:Shared) (Q:Value->Shared->Prop) (E:Value->Shared->Prop),Q (.bool (g i j)) s->wpAny (model X.prog X.w) X.A (f (.int i t) (.int j u)) Q E s) :
  OpR X f (rI0 fun i j=>.bl (g i j)):=by
 intro pins s σ H x y v u Q I rx ry h
 obtain⟨i,j,rfl,rfl,q⟩:=h
 obtain⟨t,rfl⟩:=rx
 obtain⟨t',rfl⟩:=ry
 exact rule i j t t' s _ _ ⟨.bl (g i j),H,I,rfl,q⟩
def ZkF(i j:Int):Prop:=0<=j/\j<=1000000/\i.natAbs<2^64
theorem Zeo(k:Nat):(0:Int)<=2^k:=by
 rw[two_pow_cast]
 exact Int.natCast_nonneg _
theorem Jx:OpR X (binaryOp .Add) (rI0 fun i j=>.int (i+j)):=Zn7 fun _ _ _ _ _ _ _ q=>add_int q
theorem ZdH:OpR X (binaryOp .Sub) (rI0 fun i j=>.int (i-j)):=Zn7 fun _ _ _ _ _ _ _ q=>sub_int q
theorem Jd:OpR X (binaryOp .Mod) (rI (fun _ j=>0<j) fun i j=>.int (i%j)):=opI fun i j _ _ _ _ _ hc q=>by
 have h1:(0:Int)<j:=hc
 exact mod_int' (by omega) (by rw[Int.fmod_eq_emod_of_nonneg i (by omega)];exact q)
theorem ZbL:OpR X (binaryOp .Pow) (rI ZkF fun i j=>.int (i^j.toNat)):=opI fun _ _ _ _ _ _ _ hc q=>pow_int_small hc.1 hc.2.1 hc.2.2 q
theorem Zl1:OpR X (binaryOp .RShift) (rI (fun _ j=>0<=j) fun i j=>.int (i/2^j.toNat)):=opI fun i j _ _ _ _ _ hc q =>
 rshift_int hc (by rw[Int.fdiv_eq_ediv_of_nonneg i (Zeo _)];exact q)
variable {c:Expr}{tc:TE}
theorem ZlV{pins:List (Addr×Obj)}{σ:St}{H:Hp}{s:Shared}{Q:VK}{k k':Bool}(I:Inv X pins σ H s)(q:Q (.bl k) H)(e:k=k'):EP X pins σ Q (.bool k') s:=by
 subst e
 exact⟨.bl k,H,I,rfl,q⟩
theorem ZcF:OpR X (compareOp .Lt) (rI0 fun i j=>.bl (decide (i<j))):=Zm1 fun _ _ _ _ _ _ _ q=>lt_int q
theorem Zl3:OpR X (compareOp .LtE) (rI0 fun i j=>.bl (decide (i<=j))):=Zm1 fun _ _ _ _ _ _ _ q=>le_int q
theorem Ze1:OpR X (compareOp .Gt) (rI0 fun i j=>.bl (decide (j<i))):=Zm1 fun _ _ _ _ _ _ _ q=>gt_int q
theorem ZmV:OpR X (compareOp .GtE) (rI0 fun i j=>.bl (decide (j<=i))):=Zm1 fun _ _ _ _ _ _ _ q=>ge_int q
theorem ZiH:OpR X (compareOp .Is) (fun x y H Q=>y=.non/\Q (.bl (decide (x=.non))) H):=by
 intro pins s σ H x y v u Q I rx ry h
 obtain⟨rfl,q⟩:=h
 cases ry
 refine is_none_gen (ZlV I q ?_)
 cases x<;>first
  |(cases rx;rfl)
  |(obtain⟨t,rfl⟩:=rx;rfl)
theorem ZE(b:Expr){op:CmpOp}(h:op≠.In:=by decide)(h2:op≠.NotIn:=by decide):behindInMarks op b=false:=by
 have e1:(op==CmpOp.In)=false:=by cases op<;>first|rfl|exact absurd rfl h
 have e2:(op==CmpOp.NotIn)=false:=by cases op<;>first|rfl|exact absurd rfl h2
 cases b<;>simp[behindInMarks,e1,e2]
theorem Vr{op:CmpOp}{r:R2}(ho:OpR X (compareOp op) r)(ha:PE X a ta)(hb:PE X b tb)(hm:behindInMarks op b=false):PE X (.Compare a [op] [b] pos) (tOp r ta tb):=by
 intro pins s σ H Q I h
 exact wpAny_Compare1 (Znh ha hb I h fun v u s2 x y H2 I2 rx ry q=>ho pins s2 σ H2 x y v u Q I2 rx ry q) hm
noncomputable def Zjo(t:TE):TT:=fun σ H Q=>t σ H fun x H'=>∃k,x=.bl k/\Q k H'
theorem Z8{op:CmpOp}{r:R2}(ho:OpR X (compareOp op) r)(ha:PE X a ta)(hb:PE X b tb)(hm:behindInMarks op b=false):PT X (.Compare a [op] [b] pos) (Zjo (tOp r ta tb)):=by
 intro pins s σ H Q I h
 refine wpAny_isTrue_Compare1 (thn (ha pins s σ H _ I h) fun v s1 ⟨x,H1,I1,r1,q1⟩=>thn (hb pins s1 σ H1 _ I1 q1) fun u s2 ⟨y,H2,I2,r2,q2⟩ =>
  thn (ho pins s2 σ H2 x y v u _ I2 r1 r2 q2) fun c s3 ⟨z,H3,I3,r3,k,e,q3⟩=>?_) hm
 subst e
 cases r3
 exact wpAny_truthy_bool ⟨H3,I3,q3⟩
noncomputable def Zi6(r r':R2)(ta tb tc:TE):TE:=fun σ H Q=>ta σ H fun x H1=>tb σ H1 fun y H2=>r x y H2 fun z H3=>∃k,z=.bl k /\
 (if k=true then tc σ H3 fun w' H4=>r' y w' H4 Q else Q (.bl false) H3)
theorem Zhi{op op':CmpOp}{r r':R2}(ho:OpR X (compareOp op) r)(ho':OpR X (compareOp op') r')(ha:PE X a ta)(hb:PE X b tb)(hc:PE X c tc)(hm:lastMarks [op,op'] [b,c]=false:=by with_unfolding_all rfl):PT X (.Compare a [op,op'] [b,c] pos) (Zjo (Zi6 r r' ta tb tc)):=by
 intro pins s σ H Q I h
 refine isTrue_chain (thn (ha pins s σ H _ I h) fun v s1 ⟨x,H1,I1,r1,q1⟩=>test_link (thn (hb pins s1 σ H1 _ I1 q1) fun u s2 ⟨y,H2,I2,r2,q2⟩ =>
  thn (ho pins s2 σ H2 x y v u _ I2 r1 r2 q2) fun d s3 ⟨z,H3,I3,r3,k,e,q3⟩=>?_)) hm
 subst e
 cases r3
 refine wpAny_truthy_bool ?_
 cases k with
 |false =>
  obtain⟨k',e',q'⟩:=q3
  cases e'
  exact ite_ff ⟨H3,I3,q'⟩
 |true =>
  refine ite_tt (test_last (thn (hc pins s3 σ H3 _ I3 q3) fun w' s4 ⟨z',H4,I4,r4,q4⟩=>thn (ho' pins s4 σ H4 y z' u w' _ I4 r2 r4 q4) fun d' s5 ⟨z2,H5,I5,r5,k2,e2,q5⟩=>?_))
  subst e2
  cases r5
  exact wpAny_truthy_bool ⟨H5,I5,q5⟩
def Znm(K:W.Frag)(x:V)(H:Hp)(k:Bool):Prop:=
 match x with
 |.non=>k=false
 |.bl b=>k=b
 |.int i=>k=(i != 0)
 |.str y=>y.length<=sizeLine/\k=((y.length:Int) != 0)
 |.byt y=>y.size<=sizeLine/\k=((y.size:Int) != 0)
 |.ref p=>(∃xs,SqL K H p xs/\k=!xs.isEmpty)\/(∃xs,SqT K H p xs/\k=!xs.isEmpty)\/∃kvs,H p=some (.dK kvs)/\k=!kvs.isEmpty
 |_=>False
theorem Ze7{κ:Type}{kvs:List (κ×V)}{vs:List (κ×Value)}(r:KV kvs vs):(!vs.isEmpty)=!kvs.isEmpty:=by
 cases r<;>rfl
theorem Zat{xs:List V}{its:List Value}(r:ZY xs its):(!its.toArray.isEmpty)=!xs.isEmpty:=by
 cases r<;>simp
theorem QF:(sizeLine:Nat)<2^63:=by rw[sizeLine_eq];decide
theorem ZkL:ZnS X (fun x H Q=>∃k,Znm X.K x H k/\Q k H):=by
 intro pins s σ H x v Q I rx h
 obtain⟨k,e,q⟩:=h
 have hl:=QF
 have hs:sizeLine=16777216:=sizeLine_eq
 cases x with
 |non =>
  cases rx
  have e':k=false:=e
  subst e'
  exact truthy_none ⟨H,I,q⟩
 |bl b =>
  cases rx
  have e':k=b:=e
  subst e'
  exact wpAny_truthy_bool ⟨H,I,q⟩
 |int i =>
  obtain⟨t,rfl⟩:=rx
  have e':k=(i != 0):=e
  subst e'
  exact PySem.P.truthy_int ⟨H,I,q⟩
 |str y =>
  obtain⟨t,rfl⟩:=rx
  obtain⟨hy,e'⟩:y.length<=sizeLine/\k=((y.length:Int) != 0):=e
  subst e'
  exact PySem.P.truthy_str (by omega) ⟨H,I.tok _,q⟩
 |byt y =>
  obtain⟨t,rfl⟩:=rx
  obtain⟨hy,e'⟩:y.size<=sizeLine/\k=((y.size:Int) != 0):=e
  subst e'
  exact PySem.W.truthy_bytes (by omega) ⟨H,I.tok _,q⟩
 |ref p =>
  cases rx
  have e':(∃xs,SqL X.K H p xs/\k=!xs.isEmpty)\/(∃xs,SqT X.K H p xs/\k=!xs.isEmpty)\/∃kvs,H p=some (.dK kvs)/\k=!kvs.isEmpty:=e
  rcases e' with ⟨xs,hx,e'⟩|⟨xs,hx,e'⟩|⟨kvs,hx,e'⟩
  ·subst e'
   obtain⟨its,r,pl,hz⟩:=I.list hx
   have hlen:=r.length
   exact wpAny_truthy_list pl.isList (by simp only[ZsR];omega) ⟨H,I.tok _,by rw[Zat r];exact q⟩
  ·subst e'
   obtain⟨its,r,pl,hz⟩:=I.tuple hx
   have hlen:=r.length
   exact truthy_tuple pl (by simp only[ZsR];omega) ⟨H,I.tok _,by rw[Zat r];exact q⟩
  ·subst e'
   obtain⟨hz,hS,vs,r,m⟩:kvs.length<=sizeLine/\(p==sysModules)=false/\∃vs,KV kvs vs/\s.heap.DictOf (Js X.prog X.w) p vs:=I.hok p _ hx
   have hlen:kvs.length=vs.length:=Paired.length r
   exact wpAny_truthy_dict hS m (by omega) ⟨H,I.tok _,by rw[Ze7 r];exact q⟩
 |_=>exact(show False from e).elim
theorem Zhh(ha:PE X a ta)(he:∀whole,isTrue a X.env whole=(do let v <- whole;standAt a.pos;holding [v] (truthy v))) :
  PT X a (fun σ H Q=>ta σ H fun x H'=>∃k,Znm X.K x H' k/\Q k H'):=by
 intro pins s σ H Q I h
 exact isTrue_plain (thn (ha pins s σ H _ I h) fun v s1 ⟨x,H1,I1,r1,q1⟩=>ZkL pins s1 σ H1 x v Q I1 r1 q1) (he _)
theorem Qb{x:V}{us:List Value}(r:ZY [x] us):∃u,us=[u]/\Jo x u:=by
 cases r with
 |cons r1 r2=>cases r2;exact⟨_,rfl,r1⟩
theorem ZkI{x y:V}{us:List Value}(r:ZY [x,y] us):∃u w',us=[u,w']/\Jo x u/\Jo y w':=by
 cases r with
 |cons r1 r2 =>
  cases r2 with
  |cons r3 r4=>cases r4;exact⟨_,_,rfl,r1,r3⟩
theorem Zch(hc:X.calm=true):Vx X (.builtin "max") (fun xs H Q=>∃i j,xs=[.int i,.int j]/\Q (.int (if j>i then j else i)) H):=by
 intro pins s σ H xs us Q I r h
 obtain⟨i,j,rfl,q⟩:=h
 obtain⟨u,w',rfl,⟨t,rfl⟩,⟨t',rfl⟩⟩:=ZkI r
 refine max_two_ints (I.ok.hd hc) fun h' tk k=>⟨_,H,I.kept k, ?_,q⟩
 by_cases hj:j>i
 ·rw[if_pos hj,if_pos hj];exact⟨_,rfl⟩
 ·rw[if_neg hj,if_neg hj];exact⟨_,rfl⟩
theorem Zg6:Vx X (.type "int") (fun xs H Q=>(∃i,xs=[.int i]/\Q (.int i) H)\/∃k,xs=[.bl k]/\Q (.int (if k then 1 else 0)) H):=by
 intro pins s σ H xs us Q I r h
 rcases h with ⟨i,rfl,q⟩|⟨k,rfl,q⟩
 ·obtain⟨u,rfl,t,rfl⟩:=Qb r
  exact call_int_int ⟨.int i,H,I,⟨_,rfl⟩,q⟩
 ·obtain⟨u,rfl,r1⟩:=Qb r
  cases r1
  exact call_int_bool ⟨.int (if k then 1 else 0),H,I.tok _,⟨_,rfl⟩,q⟩
end
theorem ZgQ.some_of{v:V}{o:Option Value}(r:ZgQ (some v) o):∃u,o=some u/\Jo v u:=by
 cases o with
 |none=>exact(show False from r).elim
 |some u=>exact⟨u,rfl,r⟩
section
end
structure Cls(K:PySem.W.Frag)(C:Addr):Prop where
 pg:PySem.W.plainGet K C Str.empty=true
 hd:PySem.W.hasDictIn K C=true
 po:PySem.W.plainOver K C=true
 sa:PySem.W.findIn K (.ref C) "__setattr__"=some (some (.builtin "object.__setattr__"))
section
end
structure Uu(k:Nat)(A:Around):Prop where
 hd:A.handled=none
 dp:A.depth+3*k+5<recursionLimit
 un:A.units+16*k+200<cLine
theorem Uu.mono{j k:Nat}{A:Around}(r:Uu k A)(h:j<=k):Uu j A:=⟨r.hd,by have:=r.dp;omega,by have:=r.un;omega⟩
theorem Uu.deeper{k:Nat}{A:Around}(r:Uu (k+1) A)(env:Env):Uu k (A.deeper env):=
 ⟨r.hd,by have:=r.dp;show A.depth+1+3*k+5<_;omega,by have:=r.un;show A.units+3+16*k+200<_;omega⟩
theorem Uu.in1{k:Nat}{A:Around}(r:Uu (k+1) A):Uu k A.in1:=
 ⟨r.hd,by have:=r.dp;show A.depth+3*k+5<_;omega,by have:=r.un;show A.units+1+16*k+200<_;omega⟩
theorem Uu.depth{k:Nat}{A:Around}(r:Uu k A):A.depth<recursionLimit:=by have:=r.dp;omega
theorem Uu.units{k:Nat}{A:Around}(r:Uu k A):A.units+64<cLine:=by have:=r.un;omega
noncomputable def ZeV:TA:=fun _ H Q=>Q [] H
noncomputable def UO(ta:TE)(tr:TA):TA:=fun σ H Q=>ta σ H fun x H1=>tr σ H1 fun xs H2=>Q (x::xs) H2
section
variable {X:Cx}{e:Expr}{es:List Expr}{te:TE}{t:TA}{pos:Pos}
theorem Zf:PA X [] ZeV:=fun _ _ _ _ H Q I h=>Calls.spliced_nil ⟨[],H,I,.nil,h⟩
theorem Za(ha:PE X e te)(hr:PA X es t)(hs:starEach (e::es) X.env=(false,eval e X.env)::starEach es X.env:=by rfl):PA X (e::es) (UO te t):=by
 intro pos pins s σ H Q I h
 rw[hs]
 show wpAny _ _ (spliced ((false,eval e X.env)::backTo pos (starEach es X.env))) _ _ s
 refine Calls.spliced_cons (thn (ha pins s σ H _ I h) fun u s1 ⟨x,H1,I1,r1,q1⟩=>?_)
 exact thn (hr pos pins s1 σ H1 _ I1 q1) fun us s2 ⟨xs,H2,I2,r2,q2⟩=>⟨x::xs,H2,I2,.cons r1 r2,q2⟩
noncomputable def ZmE(t:TA):TE:=fun σ H Q=>t σ H fun xs H1=>xs.length<=sizeLine/\∀p,H1 p=none->Q (.ref p) (upd H1 p (.tup xs))
noncomputable def ZmF(t:TA):TE:=fun σ H Q=>t σ H fun xs H1=>xs.length<=sizeLine/\∀p,H1 p=none->Q (.ref p) (upd H1 p (.lst xs))
theorem JV{x1}(h:PA X es t):PE X (.Tuple es x1 pos) (ZmE t):=by
 intro pins s σ H Q I hq
 refine wpAny_Tuple_spliced (thn (h pos pins s σ H _ I hq) fun us s1 ⟨xs,H1,I1,r,z,q⟩=>⟨by rw[<- r.length];exact z, ?_⟩)
 have hf:H1 s1.heap.objs.size=none:=I1.hok.fresh (ZsN _)
 refine⟨.ref s1.heap.objs.size,upd H1 s1.heap.objs.size (.tup xs),I1.laid (t':=s1.toks) (fun b u e=>Heap.get?_push_of_some _ e) (ZsN _) ?_,rfl,q _ hf⟩
 exact⟨z,us,r,⟨_,Heap.get?_push_size _ rfl,rfl,_,rfl⟩⟩
theorem Vi(h:PA X es t):PE X (.List es pos) (ZmF t):=by
 intro pins s σ H Q I hq
 refine wpAny_List_spliced (thn (h pos pins s σ H _ I hq) fun us s1 ⟨xs,H1,I1,r,z,q⟩=>⟨by rw[<- r.length];exact z, ?_⟩)
 have hf:H1 s1.heap.objs.size=none:=I1.hok.fresh (ZsN _)
 refine⟨.ref s1.heap.objs.size,upd H1 s1.heap.objs.size (.lst xs),I1.laid (t':=s1.toks) (fun b u e=>Heap.get?_push_of_some _ e) (ZsN _) ?_,rfl,q _ hf⟩
 exact⟨z,us,0,r,Heap.get?_push_size _ rfl⟩
end
noncomputable abbrev Sp:=List V->Hp->VK->XK->Prop
noncomputable abbrev CXT:=List Env->Hp->Shared->XK->Value->Shared->Prop
structure Zm7(P:Program)(w:World)(K:PySem.W.Frag)(mg:Str->Option Value)(base:Heap)(A:Around)(outer:List Env)(s:Shared)(H:Hp):Prop where
 frames:A.frames=some outer
 mod:Mod K mg base
 bs:∀b o,base.get? b=some o->s.heap.get? b=some o/\H b=none
 bsz:base.objs.size<=s.heap.objs.size
 funs:s.heap.FunFrames base outer
 frf:∀b∈frs outer,H b=none
 hok:HOk P w H s.heap
 bare:AllBare s.gens
 tab:Zje K H
def CE(outer:List Env)(P:Program)(w:World)(H:Hp)(s:Shared)(Q:VK)(u:Value)(s':Shared):Prop:=
 ∃v H',s'.os=s.os/\AllBare s'.gens/\Un (frs outer) [] H H' s.heap s'.heap/\HOk P w H' s'.heap/\Jo v u/\Q v H'
def CR(CX:CXT)(outer:List Env)(P:Program)(w:World)(H:Hp)(s:Shared)(Q:VK)(E:XK)(r:Result)(s':Shared):Prop:=
 match r with
 |.ok (.ret u)=>CE outer P w H s Q u s'
 |.ok _=>False
 |.error e=>CX outer H s E e s'
structure JB(P:Program)(w:World)(K:PySem.W.Frag)(mg:Str->Option Value)(base:Heap)(CX:CXT)(k:Nat)(f:Addr)(fd:FuncData)(ps:List Str)(sp:Sp):Prop where
 len:∀vs H Q E,sp vs H Q E->vs.length=ps.length
 run:∀(A:Around) (outer:List Env) (s:Shared) (H:Hp) (args:Args) (us:List Value) (vs:List V) (Q:VK) (E:XK),Uu k A->Zm7 P w K mg base A outer s H->BindsTo s fd args (ps.zip us)->ZY vs us->sp vs H Q E ->
  codeAny (model P w) A (.call (.ref f) args) (CR CX outer P w H s Q E) s
section
variable {X:Cx}{pins:List (Addr×Obj)}{σ:St}{H:Hp}{s s':Shared}
theorem Inv.env0(I:Inv X pins σ H s):Zm7 X.prog X.w X.K X.mg X.base X.A X.stack s H:=
 ⟨I.ok.frames,I.ok.mod,I.bs,Zth I.ok.bsz I.sz,I.stack,I.stkFree,I.hok,I.bare,fun f c P h1=>I.base.tbls _ _ _ (I.ok.tab f c P h1)⟩
theorem Inv.after{Q:VK}{u:Value}(I:Inv X pins σ H s)(h:CE X.stack X.prog X.w H s Q u s'):EP X pins σ Q u s':=by
 obtain⟨v,H',os,bare,un,hok,r,q⟩:=h
 obtain⟨hh,g,d,t,os'⟩:=s'
 obtain rfl:os'=s.os:=os
 exact⟨v,H',I.call (h':=hh) (g':=g) (d':=d) (t':=t) (ch:=[]) un hok bare (fun b z=>absurd z (by simp)),r,q⟩
end
noncomputable def ZkU(sp:Sp)(dvs:List V)(E:XK)(t:TA):TE:=fun σ H Q=>t σ H fun vs H1=>sp (vs++dvs) H1 Q E
def Zdk(K:W.Frag)(fd:FuncData)(ps:List Str)(ds:List Value):Prop:=
 ∀(s:Shared) (us:List Value),K.In s.heap->(us++ds).length=ps.length->BindsTo s fd ⟨us,[]⟩ (ps.zip (us++ds))
theorem Zdk.all{K:W.Frag}{fd:FuncData}{ps:List Str}(h:∀us:List Value,us.length=ps.length->bindArgs fd ⟨us,[]⟩=pure (ps.zip us)):Zdk K fd ps []:=fun s us _ hl=>by
 rw[ZtS] at hl ⊢
 exact .of_eq (h us hl)
def Zen(CX:CXT)(X:Cx)(E:XK):Prop:=∀(pins:List (Addr×Obj)) (σ:St) (H:Hp) (s:Shared) (e:Value) (s':Shared),Inv X pins σ H s->CX X.stack H s E e s'->X.xe e s'
section
variable {X:Cx}{CX:CXT}{k:Nat}{f:Addr}{fd:FuncData}{ps:List Str}{sp:Sp}{dvs:List V}{ds:List Value}{E:XK}{x:Str}{p pos:Pos}{e:Expr}{es:List Expr}{t:TA}
theorem Zi9{pins:List (Addr×Obj)}{σ:St}{H:Hp}{s:Shared}{Q:VK}{us:List Value}{vs:List V}(F:JB X.prog X.w X.K X.mg X.base CX k f fd ps sp)(hr:Uu k X.A)(hb:Zdk X.K fd ps ds)(hd:ZY dvs ds)(hx:Zen CX X E)(I:Inv X pins σ H s)(r:ZY vs us)(h:sp (vs++dvs) H Q E):wpAny (model X.prog X.w) X.A (call (.ref f) us) (EP X pins σ Q) X.xe s:=by
 have r2:ZY (vs++dvs) (us++ds):=r.append hd
 have hl:(us++ds).length=ps.length:=by rw[<- r2.length];exact F.len _ _ _ _ h
 refine wpAny_call (codeAny_mono (F.run X.A X.stack s H ⟨us,[]⟩ (us++ds) (vs++dvs) Q E hr I.env0 (hb s us I.kIn hl) r2 h) fun r s' hq=>?_)
 cases r with
 |error e=>exact hx pins σ H s e s' I hq
 |ok fl =>
  cases fl with
  |ret u=>exact I.after hq
  |next=>exact False.elim hq
  |brk=>exact False.elim hq
  |cont=>exact False.elim hq
theorem ZjC(F:JB X.prog X.w X.K X.mg X.base CX k f fd ps sp)(hr:Uu k X.A)(hg:Gl X x)(hm:X.mg x=some (.ref f))(hk:PySem.W.keepIn X.K (.ref f)=true)(hb:Zdk X.K fd ps ds)(hd:ZY dvs ds)(hx:Zen CX X E)(ha:PA X (e::es) t)(hdb:(x==("__debug__":Str))=false:=by decide)(he:starEach (e::es) X.env=(false,eval e X.env)::starEach es X.env:=by rfl)(hpl:(backTo pos (starEach es X.env)).any (·.1)=false:=by rfl) :
  PE X (.Call (.Name x p) (e::es) [] pos) (ZkU sp dvs E t):=by
 intro pins s σ H Q I h
 refine wpAny_Call_Name_kw (ZcM I hg hm ?_ hdb)
 refine PySem.W.callWith_K (h₀:=X.base) I.ok.mod.kin hk (thn (ha pos pins s σ H _ I h) fun us s1 ⟨vs,H1,I1,r,q⟩=>⟨I1.kIn, ?_⟩) he hpl
 exact Zi9 F hr hb hd hx I1 r q
theorem Zhn(F:JB X.prog X.w X.K X.mg X.base CX k f fd ps sp)(hr:Uu k X.A)(hg:Gl X x)(hm:X.mg x=some (.ref f))(hk:PySem.W.keepIn X.K (.ref f)=true)(hb:Zdk X.K fd ps ds)(hd:ZY dvs ds)(hx:Zen CX X E)(hdb:(x==("__debug__":Str))=false:=by decide):PE X (.Call (.Name x p) [] [] pos) (ZkU sp dvs E ZeV):=by
 intro pins s σ H Q I h
 refine wpAny_Call_Name_kw (ZcM I hg hm ?_ hdb)
 exact PySem.W.callWith_K0 I.kIn hk (Zi9 (us:=[]) F hr hb hd hx I .nil h)
end
structure Zx(N P:List Str)(sc:Scope):Prop where
 kind:sc.kind=.function
 co:sc.isCoroutine=false
 gen:sc.isGenerator=false
 nd:N.Nodup
 pre:N.take P.length=P
 par:∀x∈P,sc.names.lookup x=some .local\/sc.names.lookup x=some .cell
 nofree:∀y∈sc.names,y.2≠.free
theorem Zcm{kindOf:Str->Option NameKind}{x:Str}:∀{binds:List (Str×Value)}{m:Str->Option Value},(∀v,(x,v) ∉ binds)->bindL kindOf binds m x=m x
 |[],_,_=>rfl
 |(n,v)::r,m,h=>by
  unfold bindL
  rw[Zcm fun w hw=>h w (Ztk _ hw)]
  split
  ·have:x≠n:=by rintro rfl;exact h v Zt5
   simp[this]
  ·rfl
theorem Zco{kindOf:Str->Option NameKind}{x:Str}:∀{binds:List (Str×Value)}{m:Str->Option Value},(∀v,(x,v) ∉ binds)->bindC kindOf binds m x=m x
 |[],_,_=>rfl
 |(n,v)::r,m,h=>by
  unfold bindC
  rw[Zco fun w hw=>h w (Ztk _ hw)]
  split
  ·rfl
  ·have:x≠n:=by rintro rfl;exact h v Zt5
   simp[this]
theorem Zcn{kindOf:Str->Option NameKind}{x:Str}{v:Value}:∀{P:List Str}{vs:List Value}{i:Nat}{m:Str->Option Value},P.Nodup->P[i]?=some x->vs[i]?=some v->kindOf x=some .local ->
  bindL kindOf (P.zip vs) m x=some v
 |[],_,_,_,_,h,_,_=>by simp at h
 |_::_,[],_,_,_,_,h,_=>by simp at h
 |p::P,w::vs,0,m,nd,h1,h2,hk=>by
  simp at h1 h2;subst h1;subst h2
  show bindL kindOf ((p,w)::P.zip vs) m p=_
  unfold bindL
  rw[Zcm fun v hv=>(ZtO.mp nd).1 (Zvb hv).1,if_pos hk]
  simp
 |p::P,w::vs,i+1,m,nd,h1,h2,hk=>by
  show bindL kindOf ((p,w)::P.zip vs) m x=_
  unfold bindL
  exact Zcn (i:=i) (ZtO.mp nd).2 (by simpa using h1) (by simpa using h2) hk
theorem Zcp{kindOf:Str->Option NameKind}{x:Str}{v:Value}:∀{P:List Str}{vs:List Value}{i:Nat}{m:Str->Option Value},P.Nodup->P[i]?=some x->vs[i]?=some v->kindOf x≠some .local ->
  bindC kindOf (P.zip vs) m x=some v
 |[],_,_,_,_,h,_,_=>by simp at h
 |_::_,[],_,_,_,_,h,_=>by simp at h
 |p::P,w::vs,0,m,nd,h1,h2,hk=>by
  simp at h1 h2;subst h1;subst h2
  show bindC kindOf ((p,w)::P.zip vs) m p=_
  unfold bindC
  rw[Zco fun v hv=>(ZtO.mp nd).1 (Zvb hv).1,if_neg hk]
  simp
 |p::P,w::vs,i+1,m,nd,h1,h2,hk=>by
  show bindC kindOf ((p,w)::P.zip vs) m x=_
  unfold bindC
  exact Zcp (i:=i) (ZtO.mp nd).2 (by simpa using h1) (by simpa using h2) hk
noncomputable def Uy(N:List Str)(vs:List V):St:=vs.map some++List.replicate (N.length-vs.length) none
noncomputable def Zip(CX:CXT)(P:Program)(w:World)(K:W.Frag)(mg:Str->Option Value)(base:Heap)(N:List Str)(qual:Str)(scope:Scope)(f:Addr)(cd:Value)(A:Around)(outer:List Env)(s:Shared)(H:Hp)(E:XK):Cx where
 prog:=P
 w:=w
 K:=K
 mg:=mg
 base:=base
 A:=A.deeper (envOfC qual scope s.heap.objs.size f cd)
 N:=N
 s₀:=s
 H₀:=H
 env:=envOfC qual scope s.heap.objs.size f cd
 outer:=outer
 stack:=envOfC qual scope s.heap.objs.size f cd::outer
 ex:=[]
 calm:=true
 fn:=fun _=>true
 pn:=[]
 xe:=fun e s'=>wpAny (model P w) (A.deeper (envOfC qual scope s.heap.objs.size f cd)) (leaving (envOfC qual scope s.heap.objs.size f cd) e) (fun _ s''=>CX outer H s E e s'') (fun e' s''=>CX outer H s E e' s'') s'
theorem Zeg{sc:Scope}{n:Nat}{x:Str}(h:sc.names.lookup x=some .cell):∃c,(cellsFrom n sc.names []).lookup x=some c:=by
 have q:=PySem.W.cellsFrom_some sc.names n [] (.inl h)
 exact Option.isSome_iff_exists.mp q
theorem ZfV{CX:CXT}{P:Program}{w:World}{K:W.Frag}{mg:Str->Option Value}{base:Heap}{N ps:List Str}{qual:Str}{scope:Scope}{f:Addr}{cd:Value}{A:Around}{outer:List Env}{s s1:Shared}{H:Hp}{E:XK}{us:List Value}{vs:List V}(S:Zx N ps scope)(hd:A.handled=none)(e0:Zm7 P w K mg base A outer s H)(hl:vs.length=ps.length)(r:ZY vs us)(x:InCallC s s.heap.objs.size (bindL (envOfC qual scope s.heap.objs.size f cd).kindOf (ps.zip us) fun _=>none) (cellsFrom (s.heap.objs.size+1) scope.names []) (bindC (envOfC qual scope s.heap.objs.size f cd).kindOf (ps.zip us) fun _=>none) s1) :
  Inv (Zip CX P w K mg base N qual scope f cd A outer s H E) [] (Uy N vs) H s1:=by
 have hpl:ps.length<=N.length:=by have:=congrArg List.length S.pre;rw[ZsY] at this;omega
 obtain⟨h1,tk,rfl,hk⟩:=x.done
 have noA:∀b:Addr,b ∉ (Zip CX P w K mg base N qual scope f cd A outer s H E).ex:=fun b z=>absurd (show b∈([]:List Addr) from z) (by simp)
 refine⟨⟨e0.mod,S.kind,rfl,rfl,ZsN _,fun y z c h1 h2=>?_,fun y hy=>?_,fun y c _ h=>?_,fun _=>hd,Around.frames_deeper e0.frames,.inr ⟨rfl,rfl⟩,fun b z=>absurd z (noA b),e0.bs,e0.bsz,fun b _ _=>noA b,fun b z=>absurd z (noA b),e0.funs,e0.frf,e0.tab⟩,
  rfl,e0.bare,Un.kept hk,⟨_,x.toInCall.ns,fun i y v h1 h2 h3=>?_⟩,fun y c h=>⟨_,x.cell y c h⟩,e0.hok.fresh (ZsN _),fun y c h=>?_,fun p hp=>absurd (show p∈([]:List (Addr×Obj)) from hp) (by simp),e0.hok.kept hk, ?_⟩
 ·exact name_of_addr x.apart (PySem.mem_of_lookup h1) (PySem.mem_of_lookup h2)
 ·have hy:scope.names.lookup y=some .cell\/scope.names.lookup y=some .free:=hy
  rcases hy with hy|hy
  ·exact Zeg hy
  ·exact absurd rfl (S.nofree _ (PySem.mem_of_lookup hy))
 ·exact Zul (x.above y c (PySem.mem_of_lookup h))
 ·have hi:i<vs.length:=by
   unfold Uy at h2
   by_cases hi:i<vs.length
   ·exact hi
   ·rw[ZsU (by simpa using hi)] at h2
    rw[Zu0] at h2
    split at h2<;>cases h2
  have ha:vs[i]?=some v:=by
   unfold Uy at h2
   rw[ZsX (by simpa using hi),ZsM] at h2
   cases e:vs[i]? with
   |none=>rw[e] at h2;cases h2
   |some a=>rw[e] at h2;cases h2;rfl
  obtain⟨u,hu,rv⟩:=r.get ha
  have hp:ps[i]?=some y:=by
   rw[<- S.pre,ZtY (by omega)];exact h1
  have ndP:ps.Nodup:=by rw[<- S.pre];exact S.nd.sublist (ZuX _ _)
  refine⟨u,rv, ?_⟩
  rcases S.par y (ZsK hp) with k|k
  ·exact .inl ⟨k,Zcn ndP hp hu k⟩
  ·obtain⟨c,e⟩:=Zeg (n:=s.heap.objs.size+1) k
   refine .inr ⟨.inl k,c,e, ?_⟩
   have q:=x.cell y c e
   rw[Zcp ndP hp hu (by show scope.names.lookup y≠_;rw[k];decide)] at q
   exact q
 ·exact e0.hok.fresh (Zul (x.above y c (PySem.mem_of_lookup h)))
 ·unfold Uy
  show _=N.length
  rw[Ztw,ZsI,ZuB]
  omega
theorem ZlT{CX:CXT}{P:Program}{w:World}{K:W.Frag}{mg:Str->Option Value}{base:Heap}{k:Nat}{f:Addr}{name qual:Str}{params:Arguments}{body:List Stmt}{scope:Scope}{dV kV doc pm cdv ct oc:Value}{an od:Option Addr}{osl:Array (Option Value)}{N ps:List Str}{sp:Sp}(lk:K.lookup f=some ⟨oc,od,.func (PySem.W.fnOf name qual params body scope dV kV doc pm an cdv ct),osl⟩)(hcd:PySem.W.codeIn K cdv qual=true)(S:Zx N ps scope)(len:∀vs H Q E,sp vs H Q E->vs.length=ps.length)(hbody:∀(A:Around) (outer:List Env) (s:Shared) (H:Hp) (vs:List V) (Q:VK) (E:XK),Uu k (A.deeper (envOfC qual scope s.heap.objs.size f cdv))->sp vs H Q E ->
   ∃t,PSs (Zip CX P w K mg base N qual scope f cdv A outer s H E) body t/\t { nx:=fun _ H'=>Q .non H',rt:=Q } (Uy N vs) H) :
  JB P w K mg base CX (k+1) f (PySem.W.fnOf name qual params body scope dV kV doc pm an cdv ct) ps sp:=by
 refine⟨len,fun A outer s H args us vs Q E hr e0 hb r hsp=>?_⟩
 have hl:=len _ _ _ _ hsp
 have KX:K.In s.heap:=e0.mod.kin.keeps fun b o e=>(e0.bs b o e).1
 have lim:s.heap.NoLimit:=e0.mod.nolimit.keeps fun b o e=>(e0.bs b o e).1
 have hkind:∀y∈ps.zip us,scope.names.lookup y.1=some .local\/(scope.names.lookup y.1=some .cell/\((cellsFrom (s.heap.objs.size+1) scope.names []).lookup y.1).isSome=true):=fun⟨n,v⟩ hy=>by
  rcases S.par n (Zvb hy).1 with q|q
  ·exact .inl q
  ·exact .inr ⟨q,PySem.W.cellsFrom_some _ _ _ (.inl q)⟩
 refine codeAny_call_function hr.depth (KX _ _ lk) rfl S.co S.gen rfl (PySem.W.codeRec_of KX hcd) (hb _ _ _ _ ?_)
 refine wpAny_newFunctionEnv_cells S.kind hkind fun env he s1 x=>?_
 subst he
 refine⟨lim.keeps x.toInCall.keep,codeAny_func ?_⟩
 obtain⟨t,ht,hq⟩:=hbody A outer s H vs Q E (hr.deeper _) hsp
 have I:Inv (Zip CX P w K mg base N qual scope f cdv A outer s H E) [] (Uy N vs) H s1:=ZfV S hr.hd e0 hl r x
 refine wpAny_mono (ht [] s1 (Uy N vs) H _ I hq) (fun fl s' hs=>?_) fun e s' hs=>hs
 have fin:∀{σ':St}{H':Hp}{v:V}{u:Value},Inv (Zip CX P w K mg base N qual scope f cdv A outer s H E) [] σ' H' s'->Jo v u->Q v H'->CE outer P w H s Q u s':=
  fun {σ' H' v u} J rv q=>⟨v,H',J.os,J.bare,J.base,J.hok,rv,q⟩
 cases fl with
 |ret u =>
  obtain⟨v,σ',H',J,rv,q⟩:=hs
  exact fin J rv q
 |next =>
  obtain⟨σ',H',J,q⟩:=hs
  exact fin (v:=V.non) (u:=Value.none) J rfl q
 |brk =>
  obtain⟨_,_,_,q⟩:=hs
  exact False.elim q
 |cont =>
  obtain⟨_,_,_,q⟩:=hs
  exact False.elim q
section
variable {X:Cx}{x:Str}{p pos:Pos}{e:Expr}{es:List Expr}{t:TA}{id T:String}{r:List V->Hp->VK->Prop}
noncomputable def tCB(r:List V->Hp->VK->Prop)(t:TA):TE:=fun σ H Q=>t σ H fun vs H1=>r vs H1 Q
theorem Zr(hc:Vx X (.builtin id) r)(hg:Gl X x)(hm:X.mg x=none)(hv:bootBuiltins x=some (.builtin id))(ha:PA X (e::es) t)(hn:x ≠ "__name__":=by decide)(hdb:(x==("__debug__":Str))=false:=by decide)(he:starEach (e::es) X.env=(false,eval e X.env)::starEach es X.env:=by rfl)(hpl:(backTo pos (starEach es X.env)).any (·.1)=false:=by rfl):PE X (.Call (.Name x p) (e::es) [] pos) (tCB r t):=by
 intro pins s σ H Q I h
 refine wpAny_Call_Name_kw (UX I hg hm hv ?_ hn hdb)
 exact PyProof.Rows.callWith_builtin1 (thn (ha pos pins s σ H _ I h) fun us s1 ⟨vs,H1,I1,r1,q1⟩=>hc pins s1 σ H1 vs us Q I1 r1 q1) he hpl
theorem ZD(hc:Vx X (.type T) r)(hg:Gl X x)(hm:X.mg x=none)(hv:bootBuiltins x=some (.type T))(ha:PA X (e::es) t)(hn:x ≠ "__name__":=by decide)(hdb:(x==("__debug__":Str))=false:=by decide)(he:starEach (e::es) X.env=(false,eval e X.env)::starEach es X.env:=by rfl)(hpl:(backTo pos (starEach es X.env)).any (·.1)=false:=by rfl):PE X (.Call (.Name x p) (e::es) [] pos) (tCB r t):=by
 intro pins s σ H Q I h
 refine wpAny_Call_Name_kw (UX I hg hm hv ?_ hn hdb)
 exact PyProof.Rows.callWith_type1 (thn (ha pos pins s σ H _ I h) fun us s1 ⟨vs,H1,I1,r1,q1⟩=>hc pins s1 σ H1 vs us Q I1 r1 q1) he hpl
end
end L2
namespace HT
open PySem PyProof.Rows
noncomputable def Z1:List Int->List Int->Bool
 |[],[]=>false
 |[],_::_=>true
 |_::_,[]=>false
 |x::xs,y::ys=>if x=y then Z1 xs ys else decide (x<y)
theorem JJ(x y:Int)(xs ys:List Int):Z1 (x::xs) (y::ys)=if x=y then Z1 xs ys else decide (x<y):=rfl
theorem ZaY:Z1 [] []=false:=rfl
theorem Zad(y:Int)(ys:List Int):Z1 [] (y::ys)=true:=rfl
theorem Zae(x:Int)(xs:List Int):Z1 (x::xs) []=false:=rfl
theorem ZhZ(A:Around)(s:Shared)(a:Int)(t:Tok)(c:Int)(u:Tok):∃e,SeqAt.EqAt A s (.int a t) (.int c u) e/\(e=true ↔ a=c):=
 ⟨(a==c),SeqAt.EqAt.int_int a t c u,by simp⟩
theorem Zhe(A:Around)(s:Shared)(a:Int)(t:Tok)(c:Int)(u:Tok)(prog:Program)(w:World)(E:Value->Shared->Prop)(Q:Value->Shared->Prop)(h:Q (.bool (decide (a<c))) s) :
  wpAny (model prog w) A (richCompare .Lt (.int a t) (.int c u)) Q E s:=
 (PyProof.Rows.lt_int h:wpAny (model prog w) A (compareOp .Lt (.int a t) (.int c u)) Q E s)
section
open PySem.SeqAt
open PySem.AutoSeq1 (wpAny_loadPart')
open PySem.MeetsSeq PySem.MeetsSeq2 PySem.MeetsSeq3
end
section
noncomputable def sIx(n d:Nat):Option Int->Nat
 |none=>d
 |some v=>if v<0 then (v+(n:Int)).toNat else min v.toNat n
end
end HT
namespace L2
open PySem PySem.Spec PyProof.Rows
noncomputable abbrev TO:=St->Hp->(Option Int->Hp->Prop)->Prop
def PO(X:Cx)(e:Option Expr)(t:TO):Prop:=
 ∀(pins:List (Addr×Obj)) (s:Shared) (σ:St) (H:Hp) (Q:Option Int->Hp->Prop),Inv X pins σ H s->t σ H Q ->
  wpAny (model X.prog X.w) X.A (evalPart e X.env) (fun u s'=>∃o H',Inv X pins σ H' s'/\IsPart u o/\Q o H') X.xe s
noncomputable def ZeU:TO:=fun _ H Q=>Q none H
noncomputable def ZkO(t:TE):TO:=fun σ H Q=>t σ H fun x H1=>∃i,x=.int i/\Q (some i) H1
theorem VR{ns:List Int}:∀{us:List Value},ZY (ns.map V.int) us->IntsAre us ns:=by
 induction ns with
 |nil=>intro us r;rw[Zua] at r;cases r;exact .nil
 |cons n ns ih =>
  intro us r
  rw[ZsW] at r
  cases r with
  |cons r1 r2 =>
   obtain⟨t,e⟩:=r1
   subst e
   exact .cons n t (ih r2)
section
variable {X:Cx}{e:Expr}{te:TE}{lo hi:Option Expr}{tl th:TO}{pos p2:Pos}
theorem Zfq:PO X none ZeU:=by
 intro pins s σ H Q I h
 rw[evalPart_none]
 exact wpAny_pure ⟨none,H,I,.none,h⟩
theorem Zfp(h:PE X e te):PO X (some e) (ZkO te):=by
 intro pins s σ H Q I hw
 rw[evalPart_some]
 refine thn (h pins s σ H _ I hw) fun u s1 ⟨x,H1,I1,r1,q1⟩=>?_
 obtain⟨i,rfl,q⟩:=q1
 obtain⟨t,rfl⟩:=r1
 exact⟨some i,H1,I1,.int i t,q⟩
def SlR(X:Cx)(r:V->Option Int->Option Int->Hp->VK->Prop):Prop:=
 ∀(pins:List (Addr×Obj)) (s:Shared) (σ:St) (H:Hp) (x:V) (v vl vu:Value) (lo hi:Option Int) (sl:Addr) (Q:VK),Inv X pins σ H s->Jo x v->s.heap.IsSliceOf sl vl vu .none->IsPart vl lo->IsPart vu hi->r x lo hi H Q ->
  ∃T id,typeLookup (.type T) "__getitem__"=pure (some (.builtin id))/\s.TypeIs v T/\wpAny (model X.prog X.w) X.A (getItem v (.ref sl)) (EP X pins σ Q) X.xe s
noncomputable def tSl(r:V->Option Int->Option Int->Hp->VK->Prop)(te:TE)(tl th:TO):TE:=fun σ H Q=>te σ H fun x H1=>tl σ H1 fun l H2=>th σ H2 fun u H3=>r x l u H3 Q
theorem Zd8{r:V->Option Int->Option Int->Hp->VK->Prop}(hr:SlR X r)(he:PE X e te)(hl:PO X lo tl)(hu:PO X hi th):PE X (.Subscript e (.Slice lo hi none p2) pos) (tSl r te tl th):=by
 intro pins s σ H Q I h
 refine Subscript_ (thn (he pins s σ H _ I h) fun v s1 ⟨x,H1,I1,r1,q1⟩=>?_)
 refine wpAny_Slice (thn (hl pins s1 σ H1 _ I1 q1) fun vl s2 ⟨l,H2,I2,pl,q2⟩=>thn (hu pins s2 σ H2 _ I2 q2) fun vu s3 ⟨u,H3,I3,pu,q3⟩=>?_)
 rw[evalPart_none]
 refine wpAny_pure ?_
 have I4:Inv X pins σ H3 { s3 with heap:=s3.heap.push { cls:=.type "slice",data:=.fields #[vl,vu,.none] } }:=I3.kept (t':=s3.toks) fun b ob q=>Heap.get?_push_of_some _ q
 obtain⟨T,id,hT,ht,hg⟩:=hr pins { s3 with heap:=s3.heap.push { cls:=.type "slice",data:=.fields #[vl,vu,.none] } } σ H3 x v vl vu l u s3.heap.objs.size Q I4 r1 (Heap.IsSliceOf.new ..) pl pu q3
 show wpAny (model X.prog X.w) X.A (subscriptTail e (.Slice lo hi none p2) v (.ref s3.heap.objs.size)) (EP X pins σ Q) X.xe { s3 with heap:=s3.heap.push { cls:=.type "slice",data:=.fields #[vl,vu,.none] } }
 exact tail_any (ops:=[.ref s3.heap.objs.size,v]) ht hT hg (by with_unfolding_all rfl)
noncomputable def ZkC(xs:List V)(lo hi:Option Int):List V:=(xs.drop (HT.sIx xs.length 0 lo)).take (HT.sIx xs.length xs.length hi-HT.sIx xs.length 0 lo)
theorem ZcU(xs:List V)(lo hi:Option Int):(ZkC xs lo hi).length<=xs.length:=by
 unfold ZkC
 rw[ZsY,ZtK]
 omega
end
noncomputable def ixN(n:Nat)(i:Int):Option Nat:=if 0<=i then (if i<n then some i.toNat else none) else if -(n:Int)<=i then some (i+n).toNat else none
noncomputable def atI{α:Type}(xs:List α)(i:Int):Option α:=(ixN xs.length i).bind fun j=>xs[j]?
theorem Zbb{n:Nat}{i:Int}{j:Nat}(h:ixN n i=some j):seqIndex? i n=some j/\j<n/\-(n:Int)<=i/\i<n:=by
 unfold ixN at h
 by_cases h0:0<=i
 ·rw[if_pos h0] at h
  by_cases h1:i<n
  ·rw[if_pos h1] at h
   have e:i.toNat=j:=Option.some.inj h
   exact⟨by rw[seqIndex_of h0 h1,e],by omega,by omega,h1⟩
  ·rw[if_neg h1] at h;cases h
 ·rw[if_neg h0] at h
  by_cases h1:-(n:Int)<=i
  ·rw[if_pos h1] at h
   have e:(i+n).toNat=j:=Option.some.inj h
   exact⟨by rw[seqIndex_neg (by omega) h1,e],by omega,h1,by omega⟩
  ·rw[if_neg h1] at h;cases h
theorem Zbw{α:Type}{xs:List α}{i:Int}{v:α}(h:atI xs i=some v):∃j,seqIndex? i xs.length=some j/\xs[j]?=some v/\j<xs.length/\-(xs.length:Int)<=i/\i<xs.length:=by
 unfold atI at h
 cases e:ixN xs.length i with
 |none=>rw[e] at h;cases h
 |some j =>
  rw[e] at h
  obtain⟨h1,h2,h3,h4⟩:=Zbb e
  exact⟨j,h1,h,h2,h3,h4⟩
def Zk6(b:Expr):Prop:=∀o i,subscripted b false o i=operate [o,i] (getItem o i)
def IxR(X:Cx)(r:R2):Prop:=
 ∀(value slice:Expr) (pins:List (Addr×Obj)) (s:Shared) (σ:St) (H:Hp) (x y:V) (v u:Value) (Q:VK),Inv X pins σ H s->Jo x v->Jo y u->r x y H Q ->
  subscripted slice false v u=operate [v,u] (getItem v u)->wpAny (model X.prog X.w) X.A (subscriptTail value slice v u) (EP X pins σ Q) X.xe s
def MtR(X:Cx)(id:String)(r:V->List V->Hp->VK->Prop):Prop:=
 ∀(pins:List (Addr×Obj)) (s:Shared) (σ:St) (H:Hp) (x:V) (xs:List V) (v:Value) (us:List Value) (Q:VK),Inv X pins σ H s->Jo x v->ZY xs us->r x xs H Q ->
  wpAny (model X.prog X.w) X.A (call (.builtin id) (v::us)) (EP X pins σ Q) X.xe s
section
variable {X:Cx}{a b:Expr}{ta tb:TE}{pos:Pos}
theorem IxR.or{r r':R2}(h:IxR X r)(h':IxR X r'):IxR X (fun x y H Q=>r x y H Q\/r' x y H Q):=by
 intro value slice pins s σ H x y v u Q I rx ry q hs
 rcases q with q|q
 ·exact h value slice pins s σ H x y v u Q I rx ry q hs
 ·exact h' value slice pins s σ H x y v u Q I rx ry q hs
theorem ZC{r:R2}(hr:IxR X r)(ha:PE X a ta)(hb:PE X b tb)(hs:Zk6 b):PE X (.Subscript a b pos) (tOp r ta tb):=by
 intro pins s σ H Q I h
 exact Subscript_ (Znh ha hb I h fun v u s2 x y H2 I2 rx ry q=>hr a b pins s2 σ H2 x y v u Q I2 rx ry q (hs _ _))
noncomputable def Zlf(K:W.Frag):R2:=fun x y H Q=>∃p xs i v,x=.ref p/\y=.int i/\SqL K H p xs/\atI xs i=some v/\Q v H
noncomputable def Zn1(K:W.Frag):R2:=fun x y H Q=>∃p xs i v,x=.ref p/\y=.int i/\SqT K H p xs/\atI xs i=some v/\Q v H
noncomputable def Zn2:R2:=fun x y H Q=>∃z i c,x=.str z/\y=.int i/\z.length<=sizeLine/\atI z.cps.toList i=some c/\Q (.str ⟨#[c]⟩) H
theorem Zkc:IxR X (Zlf X.K):=by
 intro value slice pins s σ H x y v u Q I rx ry h hs
 obtain⟨p,xs,i,z,rfl,rfl,hq,he,q⟩:=h
 cases rx
 obtain⟨t,rfl⟩:=ry
 obtain⟨its,r,pl,hz⟩:=I.list hq
 obtain⟨j,h1,h2,h3,h4,h5⟩:=Zbw he
 obtain⟨w,ew,rw'⟩:=r.get h2
 have hl:=r.length
 have hn:=QF
 have fin:EP X pins σ Q w s:=⟨z,H,I,rw',q⟩
 by_cases h0:0<=i
 ·have hj:i.toNat=j:=by
   rw[seqIndex_of h0 h5] at h1
   exact Option.some.inj h1
  exact item_listR pl.isList h0 (by omega) (by rw[hj];simpa using ew) fin hs
 ·have hj:(i+(its.toArray.size:Int)).toNat=j:=by
   rw[seqIndex_neg (by omega) h4] at h1
   rw[ZsR,<- hl]
   exact Option.some.inj h1
  exact subscriptTail_builtinR (x:=w) pl.isList.typeIs slot_list_getitem.lookup
   (wpAny_getItem_list_neg (Q:=fun r s'=>r=w/\EP X pins σ Q r s') pl.isList (by omega) (by rw[ZsR]<;>omega) (by omega) (by rw[hj];simpa using ew) ⟨rfl,fin⟩) hs
theorem ZlJ:IxR X (Zn1 X.K):=by
 intro value slice pins s σ H x y v u Q I rx ry h hs
 obtain⟨p,xs,i,z,rfl,rfl,hq,he,q⟩:=h
 cases rx
 obtain⟨t,rfl⟩:=ry
 obtain⟨its,r,pl,hz⟩:=I.tuple hq
 obtain⟨j,h1,h2,h3,h4,h5⟩:=Zbw he
 obtain⟨w,ew,rw'⟩:=r.get h2
 have hl:=r.length
 have hn:=QF
 have fin:EP X pins σ Q w s:=⟨z,H,I,rw',q⟩
 exact subscriptTail_builtinR (x:=w) pl.typeIs slot_tuple_getitem.lookup
  (getItem_tuple (j:=j) (Q:=fun r s'=>r=w/\EP X pins σ Q r s') pl (by omega) (by omega) (by rw[ZsR,<- hl];exact h1) (by simpa using ew) ⟨rfl,fin⟩) hs
theorem ZlK:IxR X Zn2:=by
 intro value slice pins s σ H x y v u Q I rx ry h hs
 obtain⟨z,i,c,rfl,rfl,hz,he,q⟩:=h
 obtain⟨t,rfl⟩:=rx
 obtain⟨t',rfl⟩:=ry
 obtain⟨j,h1,h2,h3,h4,h5⟩:=Zbw he
 have hl:z.cps.toList.length=z.length:=by simp[Str.length]
 rw[hl] at h1 h4 h5
 have hn:=QF
 exact tail_any (typeIs_str s z t) slot_str_getitem.lookup (getItem_str (c:=c) (by
  have e1:decide (i < -(2^63:Int))=false:=decide_eq_false (by omega)
  have e2:decide (i ≥ 2^63)=false:=decide_eq_false (by omega)
  rw[e1,e2,Bool.or_false]) (by rw[h1];simpa using h2) ⟨.str ⟨#[c]⟩,H,I.tok _,⟨_,rfl⟩,q⟩) hs
noncomputable def rIx(K:W.Frag):R2:=fun x y H Q=>Zlf K x y H Q\/Zn1 K x y H Q\/Zn2 x y H Q
theorem ZlL:IxR X (rIx X.K):=Zkc.or (ZlJ.or ZlK)
theorem Ze3(its:List Value)(n j:Nat)(u:Value):Obj.mapSeq (·.setIfInBounds j u) { cls:=.type "list",data:=.seq its.toArray n }={ cls:=.type "list",data:=.seq (its.set j u).toArray n }:=by
 simp[Obj.mapSeq]
theorem Inv.lst{pins:List (Addr×Obj)}{σ:St}{H:Hp}{s:Shared}{p:Addr}{xs:List V}(I:Inv X pins σ H s)(h:H p=some (.lst xs)) :
  ∃(its:List Value) (n:Nat),ZY xs its/\s.heap.get? p=some { cls:=.type "list",data:=.seq its.toArray n }/\xs.length<=sizeLine:=by
 obtain⟨z,its,n,r,e⟩:=I.hok p _ h
 exact⟨its,n,r,e,z⟩
theorem Inv.lstUpd{pins:List (Addr×Obj)}{σ:St}{H:Hp}{s:Shared}{p:Addr}{xs ys:List V}{its its':List Value}{n n':Nat}{f:Obj->Obj}(I:Inv X pins σ H s)(h:H p=some (.lst xs))(ho:s.heap.get? p=some { cls:=.type "list",data:=.seq its.toArray n })(hf:f { cls:=.type "list",data:=.seq its.toArray n }={ cls:=.type "list",data:=.seq its'.toArray n' })(r:ZY ys its')(hz:ys.length<=sizeLine)(t:Nat) :
  Inv X pins σ (upd H p (.lst ys)) { s with heap:=s.heap.update p f,toks:=t }:=by
 have e:(s.heap.update p f).get? p=some { cls:=.type "list",data:=.seq its'.toArray n' }:=by
  rw[Heap.get?_update_self f ho (by rw[hf]<;>rfl),hf]
 refine I.write (x:=p) (e:=p) (by rw[h];trivial) (.inl rfl) (fun b u hb q=>(Heap.get?_update_other _ _ (Ne.symm hb)).trans q) ⟨_,e⟩ ?_
 exact⟨hz,its',n',r,e⟩
def Zj2:V->V->V->Hp->(Hp->Prop)->Prop:=fun o i v H Q=>∃p xs k j,o=.ref p/\i=.int k/\H p=some (.lst xs)/\ixN xs.length k=some j/\Q (upd H p (.lst (xs.set j v)))
theorem Vo:Znn X Zj2:=by
 intro pins s σ H o i v ov iv u Q I ro ri rv h
 obtain⟨p,xs,k,j,rfl,rfl,hp,hj,q⟩:=h
 cases ro
 obtain⟨t,rfl⟩:=ri
 obtain⟨its,n,r,ho,hz⟩:=I.lst hp
 obtain⟨h1,h2,h3,h4⟩:=Zbb hj
 have hl:=r.length
 have hn:=QF
 have I':Inv X pins σ (upd H p (.lst (xs.set j v))) { s with heap:=s.heap.update p (Obj.mapSeq (·.setIfInBounds j u)) }:=
  I.lstUpd hp ho (Ze3 its n j u) (r.set rv j) (by rw[Zu1];exact hz) s.toks
 by_cases h0:0<=k
 ·have hk:k.toNat=j:=by
   rw[seqIndex_of h0 h4] at h1
   exact Option.some.inj h1
  exact PySem.W.ki_setAt ho h0 (by omega) (by rw[ZsR,<- hl];exact h4) (by rw[hk];exact⟨_,I',q⟩)
 ·have hk:(k+(its.toArray.size:Int)).toNat=j:=by
   rw[seqIndex_neg (by omega) h3] at h1
   rw[ZsR,<- hl]
   exact Option.some.inj h1
  exact PySem.W.ki_setBack ho (by omega) (by rw[ZsR,<- hl];exact h3) (by omega) (by rw[hk];exact⟨_,I',q⟩)
theorem Zb9(lo hi:Option Int)(n:Nat):(sliceBounds lo hi none n).1=((HT.sIx n 0 lo:Nat):Int)/\(sliceBounds lo hi none n).2.1=((HT.sIx n n hi:Nat):Int)/\(sliceBounds lo hi none n).2.2=1:=by
 refine⟨?_, ?_,rfl⟩
 ·cases lo with
  |none=>simp[sliceBounds,HT.sIx]
  |some i =>
   simp only[sliceBounds,HT.sIx,Option.getD_none,show (1:Int)>0 by decide,if_true]
   by_cases h:i<0
   ·simp only[h,if_true]<;>omega
   ·simp only[h,if_false]<;>omega
 ·cases hi with
  |none=>simp[sliceBounds,HT.sIx]
  |some i =>
   simp only[sliceBounds,HT.sIx,Option.getD_none,show (1:Int)>0 by decide,if_true]
   by_cases h:i<0
   ·simp only[h,if_true]<;>omega
   ·simp only[h,if_false]<;>omega
theorem ZaD(its:List Value)(lo hi:Option Int):slicePick its.toArray lo hi none=((its.drop (HT.sIx its.length 0 lo)).take (HT.sIx its.length its.length hi-HT.sIx its.length 0 lo)).toArray:=by
 obtain⟨h1,h2,h3⟩:=Zb9 lo hi its.toArray.size
 unfold slicePick
 rw[h1,h2,h3]
 simp only[sliceRange_one,pick_run,ZsR]<;>rfl
def ZmH(K:W.Frag):V->Option Int->Option Int->Hp->VK->Prop:=fun x lo hi H Q=>∃a xs,x=.ref a/\SqL K H a xs/\∀p,H p=none->Q (.ref p) (upd H p (.lst (ZkC xs lo hi)))
theorem Zjw:SlR X (ZmH X.K):=by
 intro pins s σ H x v vl vu lo hi sl Q I rx hs pl pu h
 obtain⟨a,xs,rfl,hx,q⟩:=h
 cases rx
 obtain⟨its,r,ht,hz⟩:=I.list hx
 have hlen:=r.length
 refine⟨"list",_,slot_list_getitem.lookup,ht.isList.typeIs, ?_⟩
 refine wpAny_getItem_list_slice ht.isList hs pl pu .none (by simp) ?_ (by rw[ZsR]<;>omega)
 rw[ZaD,<- hlen]
 refine⟨.ref s.heap.objs.size,_,I.laid (t':=s.toks) (o:=.lst (ZkC xs lo hi)) (fun b ob q=>Heap.get?_push_of_some _ q) (ZsN _) ?_,rfl,q _ (I.hok.fresh (ZsN _))⟩
 exact⟨Zth (ZcU xs lo hi) hz,_,0,(r.drop (HT.sIx xs.length 0 lo)).take (HT.sIx xs.length xs.length hi-HT.sIx xs.length 0 lo),Heap.get?_push_size _ rfl⟩
theorem Zcj:Vx X (.builtin "len") (fun xs H Q=>∃p ys,xs=[.ref p]/\(SqL X.K H p ys\/SqT X.K H p ys)/\Q (.int ys.length) H):=by
 intro pins s σ H xs us Q I r h
 obtain⟨p,ys,rfl,hq,q⟩:=h
 obtain⟨u,rfl,rx⟩:=Qb r
 cases rx
 have hn:=QF
 rcases hq with hq|hq
 ·obtain⟨its,r',pl,hz⟩:=I.list hq
  have hlen:=r'.length
  exact Calls.call_len_list pl.isList (by simp only[ZsR]<;>omega) ⟨.int ys.length,H,I.tok _,⟨s.toks+1,by rw[ZsR,hlen]⟩,q⟩
 ·obtain⟨its,r',pl,hz⟩:=I.tuple hq
  have hlen:=r'.length
  exact len_tuple pl (by simp only[ZsR]<;>omega) ⟨.int ys.length,H,I.tok _,⟨s.toks+1,by rw[ZsR,hlen]⟩,q⟩
theorem Zci:Vx X (.type "list") (fun xs H Q=>∃p ys,xs=[.ref p]/\(SqL X.K H p ys\/SqT X.K H p ys)/\∀l,H l=none->Q (.ref l) (upd H l (.lst ys))):=by
 intro pins s σ H xs us Q I r h
 obtain⟨p,ys,rfl,hq,q⟩:=h
 obtain⟨u,rfl,rx⟩:=Qb r
 cases rx
 have fin:∀(its:List Value),ZY ys its->ys.length<=sizeLine->∀(h':Heap) (c':Nat),(∀b o',s.heap.get? b=some o'->h'.get? b=some o') ->
   h'.get? s.heap.objs.size=some { cls:=.type "list",dict:=none,data:=.seq its.toArray c',slots:=#[] }->EP X pins σ Q (.ref s.heap.objs.size) { s with heap:=h' }:=fun its r' hz h' c' kp e =>
  ⟨.ref s.heap.objs.size,_,I.laid (t':=s.toks) kp (ZsN _) (show JG X.prog X.w _ h' _ (.lst ys) from ⟨hz,its,c',r',e⟩),rfl,q _ (I.hok.fresh (ZsN _))⟩
 rcases hq with hq|hq
 ·obtain⟨its,r',pl,hz⟩:=I.list hq
  have hlen:=r'.length
  obtain⟨o,ho,hc,n,hd⟩:=pl.isList
  exact call_list_seq p (.inl rfl) ho hc hd (fun h' c' kp e=>fin its r' hz h' c' kp e) (by simp only[ZsR]<;>omega)
 ·obtain⟨its,r',pl,hz⟩:=I.tuple hq
  have hlen:=r'.length
  obtain⟨o,ho,hc,n,hd⟩:=pl
  exact call_list_seq p (.inr rfl) ho hc hd (fun h' c' kp e=>fin its r' hz h' c' kp e) (by simp only[ZsR]<;>omega)
theorem Zbr:Vx X (.type "tuple") (fun xs H Q=>∃p ys,xs=[.ref p]/\((SqL X.K H p ys/\∀l,H l=none->Q (.ref l) (upd H l (.tup ys)))\/(SqT X.K H p ys/\Q (.ref p) H))):=by
 intro pins s σ H xs us Q I r h
 obtain⟨p,ys,rfl,h⟩:=h
 obtain⟨u,rfl,rx⟩:=Qb r
 cases rx
 rcases h with ⟨hq,q⟩|⟨hq,q⟩
 ·obtain⟨its,r',pl,hz⟩:=I.list hq
  have hlen:=r'.length
  refine call_tuple_list pl.isList (fun h' kp=>?_) (by simp only[ZsR]<;>omega)
  have I1:Inv X pins σ H { s with heap:=h' }:=I.kept (t':=s.toks) kp
  have I2:Inv X pins σ (upd H h'.objs.size (.tup ys)) { s with heap:=h'.push { cls:=.type "tuple",data:=.seq its.toArray } }:=
   I1.laid (t':=s.toks) (fun b o e=>Heap.get?_push_of_some _ e) (ZsN _) (show JG X.prog X.w _ _ _ (.tup ys) from ⟨hz,its,r',IsTup.new _ _⟩)
  exact⟨.ref h'.objs.size,_,I2,rfl,q _ (I1.hok.fresh (ZsN _))⟩
 ·obtain⟨its,r',pl,hz⟩:=I.tuple hq
  exact call_tuple_same pl ⟨.ref p,H,I,rfl,q⟩
def tyV(K:W.Frag)(T:String)(x:V)(H:Hp):Prop:=match x with
 |.str _=>T = "str"
 |.int _=>T = "int"
 |.ref p=>(T = "list"/\∃xs,SqL K H p xs)\/(T = "tuple"/\∃o,K.lookup p=some o/\o.cls=.type "tuple"/\o.dict=none) \/
   (T = "dict"/\((∃kvs,H p=some (.dK kvs))\/∃kvs,H p=some (.dT kvs)))\/(T = "set"/\∃S n,H p=some (.set S n))
 |_=>False
theorem ZkK{pins:List (Addr×Obj)}{σ:St}{H:Hp}{s:Shared}{T:String}{x:V}{v:Value}(I:Inv X pins σ H s)(r:Jo x v)(ty:tyV X.K T x H) :
  s.TypeIs v T/\∀a,v=.ref a->∃ob,s.heap.get? a=some ob/\ob.dict=none:=by
 cases x with
 |str z =>
  obtain⟨t,rfl⟩:=r
  cases (show T = "str" from ty)
  exact⟨typeIs_str s z t,fun _ e=>nomatch e⟩
 |int i =>
  obtain⟨t,rfl⟩:=r
  cases (show T = "int" from ty)
  exact⟨typeIs_int s i t,fun _ e=>nomatch e⟩
 |ref p =>
  cases r
  rcases ty with ⟨rfl,xs,hq⟩|⟨rfl,o,hk,hc,hd⟩|⟨rfl,hk⟩|⟨rfl,S,n,hk⟩
  ·obtain⟨its,_,pl,_⟩:=I.list hq
   refine⟨pl.isList.typeIs,fun a e=>?_⟩
   cases e
   obtain⟨o,n,e,c,hd,_⟩:=pl
   exact⟨o,e,hd⟩
  ·refine⟨⟨o,I.kIn p o hk,hc⟩,fun a e=>?_⟩
   cases e
   exact⟨o,I.kIn _ o hk,hd⟩
  ·have z:∃o,s.heap.get? p=some o/\o.ExactDict:=by
    rcases hk with ⟨kvs,hk⟩|⟨kvs,hk⟩
    ·obtain⟨_,_,_,_,o,_,_,e,ex,_⟩:=I.hok p _ hk
     exact⟨o,e,ex⟩
    ·obtain⟨_,_,_,_,o,_,_,e,ex,_⟩:=I.hok p _ hk
     exact⟨o,e,ex⟩
   obtain⟨o,e,ex⟩:=z
   refine⟨⟨o,e,ex.1⟩,fun a e2=>?_⟩
   cases e2
   exact⟨o,e,ex.2.1⟩
  ·obtain⟨o,_,_,_,e,ex,_⟩:=I.hok p _ hk
   refine⟨⟨o,e,ex.1⟩,fun a e2=>?_⟩
   cases e2
   exact⟨o,e,ex.2.1⟩
 |_=>exact False.elim ty
noncomputable def tBM(K:W.Frag)(T:String)(r:V->List V->Hp->VK->Prop)(to:TE)(t:TA):TE:=fun σ H Q=>to σ H fun x H1=>tyV K T x H1/\t σ H1 fun xs H2=>r x xs H2 Q
variable {o e:Expr}{es:List Expr}{to:TE}{t:TA}{name:Str}{apos cpos:Pos}{T id:String}{r:V->List V->Hp->VK->Prop}
theorem ZcA(pa:PlainAttrs T)(slot:Slot T name id)(hty:typeOf (.builtin id)=pure (.type "method_descriptor"))(hm:MtR X id r)(ho:PE X o to)(ha:PA X (e::es) t)(hbase:attributeBase o name X.env (eval o X.env)=eval o X.env:=by rfl)(hfew:((backTo cpos (starEach (e::es) X.env)).all (fun x=>!x.1)&&(backToKw cpos (keywordEach [] X.env)).all (fun x=>x.1.isSome)
   && decide ((e::es).length+([]:List Keyword).length+(if ([]:List Keyword).isEmpty then 0 else 1)<30))=true:=by rfl)(hline:(apos.endLine==cpos.line)=true:=by rfl)(hs:starEach (e::es) X.env=(false,eval e X.env)::starEach es X.env:=by rfl)(hplain:(backTo cpos (starEach es X.env)).any (·.1)=false:=by rfl) :
  PE X (.Call (.Attribute o name apos) (e::es) [] cpos) (tBM X.K T r to t):=by
 intro pins s σ H Q I h
 refine wpAny_Call_method_late hbase hfew hline rfl (thn (ho pins s σ H _ I h) fun v s1 ⟨x,H1,I1,r1,ty,q1⟩=>?_)
 obtain⟨h1,h2⟩:=ZkK I1 r1 ty
 refine⟨T,id,pa,slot,hty,h1,h2, ?_⟩
 have hA:=ha cpos pins s1 σ H1 _ I1 q1
 rw[hs] at hA ⊢
 refine Calls.callWith_builtin (by show (false || (backTo cpos (starEach es X.env)).any (·.1))=false;rw[hplain]<;>rfl) (Calls.evalArgs_plain ?_)
 exact thn hA fun us s2 ⟨vs,H2,I2,r2,q2⟩=>hm pins s2 σ H2 x vs v us Q I2 r1 r2 q2
end
def MtM(X:Cx)(id:String)(r:V->List V->Hp->VK->Prop):Prop:=
 ∀(pins:List (Addr×Obj)) (s:Shared) (σ:St) (H:Hp) (x:V) (xs:List V) (v:Value) (us:List Value) (Q:VK),Inv X pins σ H s->Jo x v->ZY xs us->r x xs H Q ->
  wpAny (model X.prog X.w) X.A (call (.builtin id) (v::us)) (EP X pins σ Q) X.xe s
theorem ZY.one:∀{x:V}{us:List Value},ZY [x] us->∃u,us=[u]/\Jo x u
 |_,_,.cons r .nil=>⟨_,rfl,r⟩
section
variable {X:Cx}{pins:List (Addr×Obj)}{σ:St}{H:Hp}{s:Shared}{l:Addr}{xs ys:List V}
theorem Inv.lset{its its':List Value}{n:Nat}{f:Array Value->Array Value}{t':Nat}(I:Inv X pins σ H s)(hH:H l=some (.lst xs))(e:s.heap.get? l=some { cls:=.type "list",data:=.seq its.toArray n })(hf:f its.toArray=its'.toArray)(hv:ZY ys its')(hz:ys.length<=sizeLine) :
  Inv X pins σ (upd H l (.lst ys)) { s with heap:=s.heap.update l (Obj.mapSeq f),toks:=t' }:=by
 have q:=PySem.IsL.update e f
 rw[hf] at q
 refine I.write (x:=l) (e:=l) (by rw[hH];exact trivial) (.inl rfl) (fun b' u hb hu=>(Heap.get?_update_other s.heap (Obj.mapSeq f) (Ne.symm hb)).trans hu) ⟨_,q⟩ ?_
 exact⟨hz,its',_,hv,q⟩
theorem Inv.lstM(I:Inv X pins σ H s)(hH:H l=some (.lst xs)):xs.length<=sizeLine/\∃(its:List Value) (n:Nat),ZY xs its/\xs.length=its.length/\s.heap.get? l=some { cls:=.type "list",data:=.seq its.toArray n }:=by
 obtain⟨z,its,n,r,e⟩:=I.hok l _ hH
 exact⟨z,its,n,r,r.length,e⟩
end
section
variable {X:Cx}
def Zc8:V->List V->Hp->VK->Prop:=fun x vs H Q=>∃l xs y,x=.ref l/\vs=[y]/\H l=some (.lst xs)/\xs.length<sizeLine/\Q .non (upd H l (.lst (xs++[y])))
theorem JM:MtM X "list.append" Zc8:=by
 intro pins s σ H x vs v us Q I rx rv h
 obtain⟨l,xs,y,rfl,rfl,hH,hz,q⟩:=h
 cases rx
 obtain⟨u,rfl,ru⟩:=rv.one
 obtain⟨z,its,n,r,hl,e⟩:=I.lstM hH
 refine call_meets F.slot_list_append ⟨_,e,rfl⟩ F.entry_list_append (F.args_list_append_2 _ _) (PySem.list_append l its.toArray n u (by rw[ZsR];omega)) ⟨e, ?_⟩
 refine⟨.non,_,I.lset (its':=its++[u]) hH e (by simp) (r.append (.cons ru .nil)) ?_,rfl,q⟩
 rw[Ztw,List.length_singleton]
 omega
end
section
set_option maxRecDepth 100000 in
end
section
end
end L2
namespace Att
open PySem PySem.W PySem.Calls PyProof.Rows
theorem QK{P:Params}{h:Heap}:∀(ns:List Int) (vs:List Value),WellAll P h vs (ns.map WData.int)->IntsAre vs ns:=by
 intro ns
 induction ns with
 |nil =>
  intro vs w
  rw[Zua] at w
  cases w
  exact .nil
 |cons n ns ih =>
  intro vs w
  rw[ZsW] at w
  cases w with
  |cons a b =>
   cases a
   exact .cons _ _ (ih _ b)
theorem Zff{l:OpenLaw}{n:Nat}(hn:l.most=some n){P:Params}{h:Heap}{args:List WData}{vals:List Value}(hpre:l.row.toRowW.claim.pre args=true)(hwl:WellAll P h vals args) :
  ∃a vs ns,vals=[Value.ref a]/\args=[WData.list (ns.map WData.int)]/\h.get? a=some { cls:=.type "list",data:=.seq vs.toArray }/\IntsAre vs ns/\ns.length<=n:=by
 have hsh:WShape.hasAll [] args [.list .int]=true:=(pre_splitW hpre).1
 have hc:l.pre.holds [] { args:=args }=true:=(pre_splitW hpre).2
 obtain⟨d,r,rfl,h1,h2⟩:=hasAllW_cons hsh
 obtain rfl:=hasAllW_nil h2
 obtain⟨xs,rfl,h3⟩:=hasW_list h1
 obtain⟨ns,rfl⟩:=items_int h3
 have hlen:ns.length<=n:=by
  unfold OpenLaw.pre at hc
  have h4:(WTm.not (.lt (.lit (.int (n:Int))) (.len (.arg 0)))).holds [] { args:=[.list (ns.map .int)] }=true:=by
   have h4:=(holds_andW hc).1
   rw[hn] at h4
   exact h4
  have h5:=condW_of h4 (w_not (w_lt w_lit (w_len_list (w_arg rfl))))
  rw[ZsI] at h5
  refine Nat.le_of_not_lt fun q=>?_
  have q':(n:Int)<((ns.length:Nat):Int):=by omega
  first
   |(rw[decide_eq_true q'] at h5;exact absurd h5 (by decide))
   |(simp at h5;omega)
 cases hwl with
 |cons w1 w2 =>
  cases w2
  cases w1 with
  |list ho hall=>exact⟨_,_,ns,rfl,rfl,ho,QK ns _ hall,hlen⟩
theorem Zfo(l:OpenLaw)(args:List WData):l.row.toRowW.claim.post args (.bool true) args=true:=
 postW_of (r:=l.row.toRowW) (X:=(true==true))
  (show WShape.has [] (.bool true) .bool=true by first|rfl|decide|simp[WShape.has,WShape.arms,WShape.armsAll])
  (show (WTm.eq .res (.lit (.bool true))).value [] { args:=args,res:=some (.bool true),after:=args }=some (.bool (true==true)) from w_eq_bool (w_res rfl) w_lit) rfl
theorem Zdd{l:OpenLaw}{n:Nat}{q:Program}{loose:List Str}{XP:(Str->Option Value)->Heap->Prop}{YP:World->Heap->Prop}{d:DefRec}(hn:l.most=some n)(hdf:d.params.defaults=[])(call:∀(w:World) (s₀ s₁:Shared) (mg mb:Str->Option Value) (fa:Addr) (o:Obj) (pm cd doc:Value) (a:Addr) (vs:List Value) (ns:List Int),
   Ground q loose [] XP w s₀ mg mb s₁.heap->YP w s₁.heap ->
   s₁.heap.get? fa=some o->o.data=.func (docDef d.name d.params d.body d.scope pm cd doc)->s₁.heap.CodeRec cd d.name->mg d.name=some (.ref fa) ->
   s₁.heap.get? a=some { cls:=.type "list",data:=.seq vs.toArray }->IntsAre vs ns->ns.length<=n->s₁.gens=#[] ->
   codeAny (model l.prog w) callerA (.call (.ref fa) ⟨[.ref a],[]⟩) (fun r s'=>r=.ok (.ret (.bool true))/\OldK s₁.heap s'.heap/\s'.os=s₁.os/\AllBare s'.gens) s₁) :
  WalkO q loose XP YP l.row.toRowW d [] (fun f vs=>PySem.call f vs):=by
 intro w s₀ s₁ mg mb G Y fa o pm cd doc dV kV ho hd hcd hD hmg hg args vals as hpre hlay hrd hwl hlo
 obtain rfl:dV=.none:=Dflts.none hD hdf
 obtain rfl:kV=.none:=Dflts.noKw hD
 obtain⟨a,vs,ns,rfl,rfl,hobj,hints,hlen⟩:=Zff hn hpre hwl
 refine enter_call (codeAny_mono (call w s₀ s₁ mg mb fa o pm cd doc a vs ns G Y ho (fd_plain hd) hcd hmg hobj hints hlen hg) fun r s' hq=>?_)
 obtain⟨rfl,h2,h3,h4⟩:=hq
 exact⟨.inl ⟨.bool true,.bool true,[],rfl,fun _=>rfl,.bool true,Zfo l _,fun _=>⟨List.Pairwise.nil,fun _ hm=>(nomatch hm)⟩⟩,h2,h3,h4⟩
section
end
end Att
namespace L2
open PySem PySem.Spec PyProof.Rows
theorem Zb3:∀{vs:List Value}{ns:List Int},IntsAre vs ns->ZY (ns.map V.int) vs
 |_,_,.nil=>.nil
 |_,_,.cons n t h=>.cons ⟨t,rfl⟩ (Zb3 h)
def Zk7(K:W.Frag)(h:Heap):Prop:=∀f c P,Zcv K f=some (c,P)->h.get? P=some (PySem.W.tabObj #[])/\K.lookup P=none
theorem ZfN{K:W.Frag}{f c P:Addr}(h:Zcv K f=some (c,P)):PySem.W.codeHdIn K c P=true:=by
 unfold Zcv at h
 repeat' split at h
 all_goals first|cases h;done|skip
 rename_i hd
 cases h
 exact hd
open Classical in
theorem ZhD{P:Program}{w:World}{K:W.Frag}{mg mb:Str->Option Value}{CX:CXT}{k:Nat}{fa a:Addr}{fd:FuncData}{x:Str}{sp:Sp}{s₁:Shared}{vs:List Value}{ns:List Int}(KX:K.In s₁.heap)(hns:s₁.heap.Ns mainGlobals mg)(hb:s₁.heap.Ns builtinsNs mb)(hbb:∀x:Str,x ≠ "__name__"->mb x=bootBuiltins x)(hlim:s₁.heap.NoLimit)(hbm:BMd mg s₁.heap)(hL:Zk7 K s₁.heap)(hg:s₁.gens=#[])(ha:s₁.heap.get? a=some { cls:=.type "list",data:=.seq vs.toArray })(hi:IntsAre vs ns)(hl:ns.length<=sizeLine)(hr:Uu k callerA)(F:∀base:Heap,K.In base->base.Ns mainGlobals mg->JB P w K mg base CX k fa fd [x] sp)(hbind:∀(s:Shared) (u:Value),BindsTo s fd ⟨[u],[]⟩ [(x,u)])(hsp:∀H:Hp,SqL K H a (ns.map V.int)->sp [.ref a] H (fun v _=>v=.bl true) fun _ _ _=>False)(hCX:∀H e s',CX [] H s₁ (fun _ _ _=>False) e s'->False) :
  codeAny (model P w) callerA (.call (.ref fa) ⟨[.ref a],[]⟩) (fun r s'=>r=.ok (.ret (.bool true))/\OldK s₁.heap s'.heap/\s'.os=s₁.os/\AllBare s'.gens) s₁:=by
 have rv:=Zb3 hi
 have lenV:=hi.length
 generalize hH:(fun b=>if (∃f c,Zcv K f=some (c,b)) then some (HO.tbl #[] "ends_first.<locals>.<lambda>") else if b=a/\K.lookup a=none then some (.frz { cls:=.type "list",data:=.seq vs.toArray } (.lst (ns.map V.int))) else none:Hp)=H
 have tabP:∀{b},(∃f c,Zcv K f=some (c,b))->s₁.heap.get? b=some (PySem.W.tabObj #[])/\K.lookup b=none/\PySem.isCodeTable s₁.heap b:=fun {b} e=>by
  obtain⟨f0,c,q⟩:=e
  obtain⟨h1,h2⟩:=hL f0 c b q
  exact⟨h1,h2,((PySem.W.codeHd_of_K KX (ZfN q)).tab h1).isCodeTable⟩
 have at_tab:∀{b},(∃f c,Zcv K f=some (c,b))->H b=some (.tbl #[] "ends_first.<locals>.<lambda>"):=fun {b} e=>by subst hH;exact if_pos e
 have at_a:K.lookup a=none->H a=some (.frz { cls:=.type "list",data:=.seq vs.toArray } (.lst (ns.map V.int))):=fun e=>by
  subst hH
  refine(if_neg fun z=>?_).trans (if_pos ⟨rfl,e⟩)
  have:=(tabP z).1
  rw[ha] at this
  cases this
 have cases_H:∀b u,H b=some u->((∃f c,Zcv K f=some (c,b))/\u=.tbl #[] "ends_first.<locals>.<lambda>")\/(b=a/\K.lookup a=none/\u=.frz { cls:=.type "list",data:=.seq vs.toArray } (.lst (ns.map V.int))):=fun b u e=>by
  subst hH
  dsimp only at e
  split at e
  ·rename_i z;exact .inl ⟨z,(Option.some.inj e).symm⟩
  ·split at e
   ·rename_i z;exact .inr ⟨z.1,z.2,(Option.some.inj e).symm⟩
   ·cases e
 have hS:SqL K H a (ns.map V.int):=by
  cases hk:K.lookup a with
  |some o =>
   have e:=KX a o hk
   rw[ha] at e
   cases e
   exact .inr ⟨_,vs.toArray,_,hk,rfl,rfl,rfl,by rw[ZsR,lenV];exact hl,by simpa using rv⟩
  |none=>exact .inl (.inr ⟨_,at_a hk⟩)
 have hok:HOk P w H s₁.heap:=fun b u e=>by
  rcases cases_H b u e with ⟨z,rfl⟩|⟨rfl,_,rfl⟩
  ·exact⟨#[],(tabP z).1,trivial,fun pos c' q=>by cases q⟩
  ·exact⟨ha,by rw[ZsI];exact hl,vs,_,rv,ha⟩
 have base_of:∀{b:Addr}{o:Obj},s₁.heap.get? b=some o->H b=none->(ZhQ s₁.heap H).get? b=some o:=fun e n=>ZhP e n
 have noA:∀{b:Addr}{o:Obj},s₁.heap.get? b=some o->(∀xs n,o.data≠.seq xs n)->(∀xs,o.data≠.fields xs)->H b=none:=fun {b o} e d1 d2=>by
  cases q:H b with
  |none=>rfl
  |some u =>
   rcases cases_H b u q with ⟨z,_⟩|⟨z,_,_⟩
   ·have:=(tabP z).1
    rw[e] at this;cases this
    exact absurd rfl (d2 _)
   ·subst z
    rw[ha] at e;cases e
    exact absurd rfl (d1 _ _)
 have nsK:∀{b:Addr}{m:Str->Option Value},s₁.heap.Ns b m->(ZhQ s₁.heap H).Ns b m:=fun {b m} ⟨o,es,ep,e,d,r⟩=>⟨o,es,ep,base_of e (noA e (fun _ _ z=>by rw[d] at z;cases z) (fun _ z=>by rw[d] at z;cases z)),d,r⟩
 have hKb:K.In (ZhQ s₁.heap H):=fun b o e=>base_of (KX b o e) (by
  cases q:H b with
  |none=>rfl
  |some u =>
   rcases cases_H b u q with ⟨z,_⟩|⟨rfl,z,_⟩
   ·rw[(tabP z).2.1] at e;cases e
   ·rw[z] at e;cases e)
 have hM:Mod K mg (ZhQ s₁.heap H):=⟨hKb,nsK hns,⟨mb,nsK hb,hbb⟩,let ⟨mc,h1,h2⟩:=hlim;⟨mc,nsK h1,h2⟩,by
  obtain⟨bm,o,b1,b2,b3,b4,b5,b6⟩:=hbm
  exact⟨bm,o,b1,b2,base_of b3 (noA b3 (fun _ _ z=>by rw[b6] at z;cases z) (fun _ z=>by rw[b6] at z;cases z)),b4,b5,b6⟩⟩
 have e0:Zm7 P w K mg (ZhQ s₁.heap H) callerA [] s₁ H:=⟨rfl,hM,fun b o e=>ZjP e,ZuQ (ZfY _ _),trivial,fun b hb=>absurd (show b∈([]:List Addr) from hb) (by simp),hok,.of_eq hg,fun f0 c P0 q=>at_tab ⟨f0,c,q⟩⟩
 refine codeAny_mono ((F _ hKb (nsK hns)).run callerA [] s₁ H ⟨[.ref a],[]⟩ [.ref a] [.ref a] _ _ hr e0 (hbind s₁ (.ref a)) (.cons rfl .nil) (hsp H hS)) fun r s' h=>?_
 match r,h with
 |.error e,h=>exact(hCX H e s' h).elim
 |.ok (.ret u),h =>
  obtain⟨v,H',os,bare,un,hok',r',q⟩:=h
  have q':v=.bl true:=q
  subst q'
  obtain rfl:u=Value.bool true:=r'
  have old:∀b o,s₁.heap.get? b=some o->PySem.asItWas s₁.heap s'.heap b o/\∃o',s'.heap.get? b=some o':=fun b o e=>by
   cases q:H b with
   |none =>
    have:=un.keep b o e q (by intro z;exact absurd (show b∈([]:List Addr) from z) (by simp)) (by simp)
    exact⟨.inl this,_,this⟩
   |some u =>
    rcases cases_H b u q with ⟨z,rfl⟩|⟨rfl,_,rfl⟩
    ·obtain⟨more,e2,_⟩:=hok' b _ (un.tbls b _ _ q)
     obtain⟨t1,_,t2⟩:=tabP z
     rw[e] at t1;cases t1
     exact⟨.inr (.inl ⟨t2,rfl,#[],more,rfl,e2⟩),_,e2⟩
    ·obtain⟨e1,_⟩:=hok b _ q
     obtain⟨e2,_⟩:=hok' b _ (un.frzs b _ _ q)
     rw[e] at e1;cases e1
     exact⟨.inl e2,_,e2⟩
  exact⟨rfl,⟨fun b o e=>(old b o e).1,fun b o e=>(old b o e).2⟩,os,bare⟩
noncomputable abbrev KOf{K:W.Frag}{h:Heap}(_:K.In h):W.Frag:=K
theorem Zmm{p:Program}{loose:List Str}{mean:ExcName->Option Value}{mg mb:Str->Option Value}{h:Heap}(T:PyProof.Rows.Top p loose mean mg mb h):BMd mg h:=let ⟨bm,ob,a,b,c,d,e,f⟩:=T.bmain;⟨bm,ob,a,b,c,d,e,f⟩
theorem ZgR{l:PySem.W.OpenLaw}{n k:Nat}{q:Program}{loose:List Str}{XP:(Str->Option Value)->Heap->Prop}{YP:World->Heap->Prop}{d:DefRec}{K:Params->W.Frag}{CX:CXT}{sp:W.Frag->Sp}{x:Str}(hn:l.most=some n)(hn2:n<=sizeLine)(hdf:d.params.defaults=[])(hr:Uu k callerA)(hY:∀(w:World) (h:Heap),YP w h->(K w.params).In h/\Zk7 (K w.params) h)(F:∀(w:World) (mg:Str->Option Value) (fa:Addr) (h:Heap),(K w.params).In h->h.Ns mainGlobals mg->mg d.name=some (.ref fa) ->
   ∃fd:FuncData,(∀(s:Shared) (u:Value),BindsTo s fd ⟨[u],[]⟩ [(x,u)]) /\
    ∀base:Heap,(K w.params).In base->base.Ns mainGlobals mg->JB l.prog w (K w.params) mg base CX k fa fd [x] (sp (K w.params)))(hsp:∀(K:PySem.W.Frag) (H:Hp) (a:Addr) (ns:List Int),ns.length<=n->SqL K H a (ns.map V.int)->sp K [.ref a] H (fun v _=>v=.bl true) fun _ _ _=>False)(hCX:∀(H:Hp) (s:Shared) (e:Value) (s':Shared),CX [] H s (fun _ _ _=>False) e s'->False) :
  PySem.W.WalkO q loose XP YP l.row.toRowW d [] (fun f vs=>PySem.call f vs):=by
 refine Att.Zdd hn hdf fun w s₀ s₁ mg mb fa o pm cd doc a vs ns G Y ho hd hcd hmg hobj hints hlen hg=>?_
 obtain⟨KX,LX⟩:=hY w _ Y
 obtain⟨fd,hb,hF⟩:=F w mg fa _ KX G.T.g hmg
 exact ZhD KX G.T.g G.T.b G.T.builtins G.T.nolimit (Zmm G.T) LX hg hobj hints (Zth hlen hn2) hr hF hb (fun H hS=>hsp (K w.params) H a ns hlen hS) fun H e s'=>hCX H s₁ e s'
noncomputable def US(s:Stmt):Arguments:=match s with
 |.FunctionDef _ a _ _ _ _ _ _ _ _=>a
 |_=>{ posonlyargs:=[],args:=[],vararg:=none,kwonlyargs:=[],kw_defaults:=[],kwarg:=none,defaults:=[] }
noncomputable def Vd(s:Stmt):List Stmt:=match s with
 |.FunctionDef _ _ b _ _ _ _ _ _ _=>b
 |_=>[]
noncomputable def Zn(s:Stmt):Scope:=match s with
 |.FunctionDef _ _ _ _ _ _ sc _ _ _=>sc
 |_=>{ kind:=.function,names:=[],isGenerator:=false,isCoroutine:=false }
noncomputable abbrev CX0:CXT:=fun _ _ _ _ _ _=>False
noncomputable abbrev E0:XK:=fun _ _ _=>False
theorem Zlk{X:Cx}:Zen CX0 X E0:=fun _ _ _ _ _ _ _ h=>h.elim
structure Fun(K:PySem.W.Frag)(x qual:Str)(st:Stmt)(f:Addr)(fd:FuncData):Prop where
 ex:∃(oc:Value) (od:Option Addr) (kV doc pm:Value) (an:Option Addr) (cdv ct:Value) (osl:Array (Option Value)),
  fd=PySem.W.fnOf x qual (US st) (Vd st) (Zn st) .none kV doc pm an cdv ct/\K.lookup f=some ⟨oc,od,.func fd,osl⟩/\PySem.W.codeIn K cdv qual=true
 kp:PySem.W.keepIn K (.ref f)=true
section
variable {P:Program}{w:World}{K:W.Frag}{mg:Str->Option Value}{base:Heap}
theorem Fun.ok{x qual:Str}{st:Stmt}{f:Addr}{fd:FuncData}{N ps:List Str}{k:Nat}{sp:Sp}(F:Fun K x qual st f fd)(S:Zx N ps (Zn st))(len:∀vs H Q E,sp vs H Q E->vs.length=ps.length)(hbody:∀(cdv:Value) (A:Around) (outer:List Env) (s:Shared) (H:Hp) (vs:List V) (Q:VK) (E:XK),Uu k (A.deeper (envOfC qual (Zn st) s.heap.objs.size f cdv))->sp vs H Q E ->
   ∃t,PSs (Zip CX0 P w K mg base N qual (Zn st) f cdv A outer s H E).nox (Vd st) t/\t { nx:=fun _ H'=>Q .non H',rt:=Q } (Uy N vs) H):JB P w K mg base CX0 (k+1) f fd ps sp:=by
 obtain⟨oc,od,kV,doc,pm,an,cdv,ct,osl,rfl,lk,hcd⟩:=F.ex
 refine ZlT lk hcd S len fun A outer s H vs Q E hr hsp=>?_
 obtain⟨t,h,q⟩:=hbody cdv A outer s H vs Q E hr hsp
 exact⟨t,h.nox,q⟩
theorem Fun.binds{x qual:Str}{st:Stmt}{f:Addr}{fd:FuncData}{ps:List Str}(F:Fun K x qual st f fd)(h:∀(kV doc pm:Value) (an:Option Addr) (cdv ct:Value) (us:List Value),us.length=ps.length->bindArgs (PySem.W.fnOf x qual (US st) (Vd st) (Zn st) .none kV doc pm an cdv ct) ⟨us,[]⟩=pure (ps.zip us)):Zdk K fd ps []:=by
 obtain⟨oc,od,kV,doc,pm,an,cdv,ct,osl,rfl,lk,hcd⟩:=F.ex
 exact .all (h kV doc pm an cdv ct)
theorem ZlS{x qual:Str}{st:Stmt}{f:Addr}{oc:Value}{od an:Option Addr}{osl:Array (Option Value)}{kV doc pm cdv ct:Value}(l:K.lookup f=some ⟨oc,od,.func (PySem.W.fnOf x qual (US st) (Vd st) (Zn st) .none kV doc pm an cdv ct),osl⟩)(c:PySem.W.codeIn K cdv qual=true)(k:PySem.W.keepIn K (.ref f)=true):Fun K x qual st f (PySem.W.fnOf x qual (US st) (Vd st) (Zn st) .none kV doc pm an cdv ct):=⟨⟨oc,od,kV,doc,pm,an,cdv,ct,osl,rfl,l,c⟩,k⟩
variable {X:Cx}
theorem pv(i:Nat){x:Str}{pos:Pos}(hN:X.N[i]?=some x:=by rfl)(hv:Vis X.env.scope x:=by first|exact Or.inl rfl|exact Or.inr (Or.inl rfl)|exact Or.inr (Or.inr rfl))(hd:(x==("__debug__":Str))=false:=by decide)(hcd:(x==("__classdict__":Str))=false:=by decide):PE X (.Name x pos) (Za9 i):=Zli hN hv hd hcd
end
def Z6(H H':Hp):Prop:=∀b o,H b=some o->H' b=some o
theorem Z6.refl(H:Hp):Z6 H H:=fun _ _ h=>h
theorem Z6.trans{H H1 H2:Hp}(a:Z6 H H1)(b:Z6 H1 H2):Z6 H H2:=fun c o h=>b c o (a c o h)
theorem Z6.free{H H':Hp}(e:Z6 H H'){l:Addr}(h:H' l=Option.none):H l=Option.none:=by
 cases q:H l with
 |none=>rfl
 |some o =>
  rw[e l o q] at h
  cases h
end L2
set_option maxHeartbeats 4000000
namespace L2
open PySem PySem.Spec PyProof.Rows
noncomputable def Zai(scope:Scope)(env:Env):List (Str×Addr):=
 ((scope.names.filter fun p=>p.2==.free).reverse).map fun p=>(p.1,(env.cells.lookup p.1).getD 0)
theorem U9{β:Type}:∀{l:List (Str×β)}{a:Str}{b:β},(a,b)∈l->∃c,l.lookup a=some c
 |[],_,_,h=>absurd h (by simp)
 |(n,v)::r,a,b,h=>by
  cases e:a==n with
  |true=>exact⟨v,by simp[ZtB,e]⟩
  |false =>
   rcases ZsT.mp h with z|z
   ·cases z;simp at e
   ·obtain⟨c,hc⟩:=U9 z
    exact⟨c,by simp[ZtB,e,hc]⟩
theorem ZS{env:Env}:∀{names:List (Str×NameKind)}{y:Str}{k:NameKind},(∀p∈names,p.2≠.cell) ->
  (names.map fun(n,k)=>if (k==NameKind.free&&env.scope.kind==.function&&env.kindOf n==some .cell) then (n,NameKind.cell) else (n,k)).lookup y=some k ->
  (k=.local->names.lookup y=some .local)/\(k=.cell\/k=.free->names.lookup y=some .free)
 |[],_,_,_,h=>by simp at h
 |(n,k0)::r,y,k,nc,h=>by
  have ih:=@ZS env r y k (fun p hp=>nc p (Ztk _ hp))
  have nc0:=nc (n,k0) Zt5
  have h':List.lookup y ((if (k0==NameKind.free&&env.scope.kind==.function&&env.kindOf n==some .cell)=true then (n,NameKind.cell) else (n,k0))::(r.map fun(n,k)=>if (k==NameKind.free&&env.scope.kind==.function&&env.kindOf n==some .cell) then (n,NameKind.cell) else (n,k)))=some k:=h
  cases hx:y==n with
  |true =>
   by_cases hc:(k0==NameKind.free&&env.scope.kind==.function&&env.kindOf n==some .cell)=true
   ·rw[if_pos hc] at h'
    simp only[ZtB,hx] at h'
    have hk:NameKind.cell=k:=Option.some.inj h'
    subst hk
    have hf:k0=.free:=by
     simp only[Bool.and_eq_true] at hc
     exact beq_iff_eq.mp hc.1.1
    subst hf
    exact⟨(fun z=>nomatch z),fun _=>by simp[ZtB,hx]⟩
   ·rw[if_neg hc] at h'
    simp only[ZtB,hx] at h'
    have hk:k0=k:=Option.some.inj h'
    subst hk
    refine⟨fun z=>by subst z;simp[ZtB,hx],fun z=>?_⟩
    rcases z with z|z
    ·exact absurd z nc0
    ·subst z;simp[ZtB,hx]
  |false =>
   by_cases hc:(k0==NameKind.free&&env.scope.kind==.function&&env.kindOf n==some .cell)=true
   ·rw[if_pos hc] at h'
    simp only[ZtB,hx] at h'
    have:=ih h'
    simpa[ZtB,hx] using this
   ·rw[if_neg hc] at h'
    simp only[ZtB,hx] at h'
    have:=ih h'
    simpa[ZtB,hx] using this
noncomputable def ZcV(N:List Str)(sc scope:Scope)(x:Str):Bool:=
 (scope.names.all fun p=>!(p.2==.cell))&&(scope.kind==.function)&&(scope.names.all fun p=>!(p.2==.local) || scope.names.lookup p.1==some .local)&&(scope.names.lookup x==some .local)
  && (N.all fun y=>!(scope.names.lookup y==some .local))&&(scope.names.all fun p=>!(p.2==.free) || sc.names.lookup p.1==some .cell || sc.names.lookup p.1==some .free)
structure Za4(N:List Str)(sc scope:Scope)(x:Str):Prop where
 nc:∀p∈scope.names,p.2≠.cell
 kind:scope.kind=.function
 locs:∀p∈scope.names,p.2=.local->scope.names.lookup p.1=some .local
 var:scope.names.lookup x=some .local
 noN:∀y∈N,scope.names.lookup y≠some .local
 fr:∀p∈scope.names,p.2=.free->sc.names.lookup p.1=some .cell\/sc.names.lookup p.1=some .free
theorem Za4.of{N:List Str}{sc scope:Scope}{x:Str}(h:ZcV N sc scope x=true):Za4 N sc scope x:=by
 unfold ZcV at h
 simp only[Bool.and_eq_true,Zt4,Bool.or_eq_true,Bool.not_eq_true',beq_iff_eq,beq_eq_false_iff_ne] at h
 obtain⟨⟨⟨⟨⟨h1,h2⟩,h3⟩,h4⟩,h5⟩,h6⟩:=h
 refine⟨h1,h2,fun p hp e=>?_,h4,h5,fun p hp e=>?_⟩
 ·rcases h3 p hp with z|z
  ·exact absurd e z
  ·exact z
 ·rcases h6 p hp with (z|z)|z
  ·exact absurd e z
  ·exact .inl z
  ·exact .inr z
section
variable {X:Cx}{pins:List (Addr×Obj)}{σ:St}{H:Hp}{s:Shared}
theorem Inv.adopt{D:Addr}{ys:List V}{its:List Value}{n:Nat}(I:Inv X pins σ H s)(hn:H D=none)(h1:X.s₀.heap.objs.size<=D)(hL:D≠X.env.locals)(hc:∀x c,X.env.cells.lookup x=some c->c≠D)(hp:∀p∈X.pn++pins,p.1≠D)(ho:s.heap.get? D=some { cls:=.type "list",data:=.seq its.toArray n })(r:ZY ys its)(hz:ys.length<=sizeLine):Inv X pins σ (upd H D (.lst ys)) s:=by
 refine I.step (h':=s.heap) (g':=s.gens) (d':=s.drawn) (t':=s.toks) (ch:=[D]) (fun b hb=>?_) (fun b o _ _ _ e _=>e) (fun b o _ _ _ e _=>⟨o.slots,e⟩) (fun b o hb _ e=>?_) (fun b o _ e=>⟨o,e⟩)
  (fun b xs e=>?_) (fun b o u e=>?_) (fun b ps w e=>?_) (fun m hm=>hm) (fun b u e=>?_) I.bare
 ·have e:b=D:=by simpa using hb
  subst e
  exact⟨.inr h1,hL,hc,hp⟩
 ·rw[Zy (by simpa using hb)];exact e
 ·rw[Zy (ZB e hn)];exact e
 ·rw[Zy (ZB e hn)];exact e
 ·rw[Zy (ZB e hn)];exact e
 ·by_cases hb:b=D
  ·subst hb
   rw[Z4] at e;cases e
   exact⟨hz,its,n,r,ho⟩
  ·rw[Zy hb] at e
   exact(I.hok b u e).stay (fun c v _ q=>q) (fun c q=>by rw[Zy (ZB q hn)];exact q) fun c xs q=>by rw[Zy (ZB q hn)];exact q
variable {scope:Scope}
theorem Qt{y:Str}(h:scope.names.lookup y=some .free):∃c,(Zai scope X.env).lookup y=some c:=by
 have hm:=PySem.mem_of_lookup h
 refine U9 (b:=(X.env.cells.lookup y).getD 0) ?_
 unfold Zai
 exact ZsV.mpr ⟨(y,.free),Zva.mpr (Zt7.mpr ⟨hm,rfl⟩),rfl⟩
end
end L2
namespace HL
open PySem PyProof.Rows
section
open PySem.SeqAt
open PySem.AutoSeq1 (wpAny_loadPart')
open PySem.MeetsSeq PySem.MeetsSeq2 PySem.MeetsSeq3 SeqRoads2
theorem Uq:∀{vs:List Value}{ns:List Int}{i:Nat} (_:IntsAre vs ns) (h1:i<vs.length) (h2:i<ns.length),∃t,vs[i]=Value.int ns[i] t
 |_,_,0,.cons n t _,_,_=>⟨t,rfl⟩
 |_,_,i+1,.cons n t h,h1,h2=>by
  obtain⟨u,e⟩:=Uq (i:=i) h (by simpa using h1) (by simpa using h2)
  exact⟨u,by simpa using e⟩
theorem ZjV(l b:Addr)(items items2:Array Value)(n n2:Nat)(dd dd2:Option Addr)(sl sl2:Array (Option Value))(ns ms:List Int)(hi:IntsAre items.toList ns)(hj:IntsAre items2.toList ms)(k:Nat) :
  ∀i:Nat,min items.size items2.size-i=k->i<=min items.size items2.size->Meets (Builtin.«list.__eq__.loop» ⟨[.ref l,.ref b,rawInt i,rawInt 0],[]⟩)
   (fun A R s=>s.heap.get? l=some { cls:=.type "list",dict:=dd,data:=.seq items n,slots:=sl }/\s.heap.get? b=some { cls:=.type "list",dict:=dd2,data:=.seq items2 n2,slots:=sl2 } /\
    R (.ok (.ret (.bool (HT.Z1 (ns.drop i) (ms.drop i))))) s):=by
 have z1:items.size=ns.length:=by rw[<- hi.length];simp
 have z2:items2.size=ms.length:=by rw[<- hj.length];simp
 induction k with
 |zero =>
  intro i hk hle prog w A R s h
  obtain⟨hp,g,d,tk,os⟩:=s;obtain⟨hl,hb,h⟩:=h
  have hmin:min items.size items2.size=i:=by omega
  have fin:HT.Z1 (ns.drop i) (ms.drop i)=decide (items.size<items2.size):=by
   rw[z1,z2] at hmin ⊢
   by_cases h1:ns.length<=i
   ·rw[ZtC h1]
    by_cases h2:ms.length<=i
    ·rw[ZtC h2,HT.ZaY]
     exact(decide_eq_false (by omega)).symm
    ·rw[Zte (by omega),HT.Zad]
     exact(decide_eq_true (by omega)).symm
   ·rw[Zte (by omega),ZtC (l:=ms) (by omega),HT.Zae]
    exact(decide_eq_false (by omega)).symm
  rw[fin] at h
  wp_walk using wpAny_loadPart' hl,wpAny_loadPart' hb
  by_cases h1:items.size<=i
  ·have hi1:items[((i:Nat):Int).toNat]?=none:=by simp;omega
   rw[hi1]
   cases h2:items2[((i:Nat):Int).toNat]? <;>
   ·wp_walk using wpAny_loadPart' hl,wpAny_loadPart' hb
    exact h
  ·have hi1:items[((i:Nat):Int).toNat]?=some (items[i]'(by omega)):=by simp
   have hi2:items2[((i:Nat):Int).toNat]?=none:=by simp;omega
   rw[hi1,hi2]
   wp_walk using wpAny_loadPart' hl,wpAny_loadPart' hb
   exact h
 |succ k ih =>
  intro i hk hle prog w A R s h
  obtain⟨hp,g,d,tk,os⟩:=s;obtain⟨hl,hb,h⟩:=h
  wp_walk using wpAny_loadPart' hl,wpAny_loadPart' hb
  have hlt:i<items.size:=by omega
  have hlt2:i<items2.size:=by omega
  have hn1:i<ns.length:=by omega
  have hn2:i<ms.length:=by omega
  have hi1:items[((i:Nat):Int).toNat]?=some items[i]:=by simp[hlt]
  have hi2:items2[((i:Nat):Int).toNat]?=some items2[i]:=by simp[hlt2]
  have hc:((i:Int)+1)=((i+1:Nat):Int):=by push_cast;rfl
  obtain⟨t,e1⟩:∃t,items[i]=Value.int ns[i] t:=by
   obtain⟨t,e⟩:=Uq hi (i:=i) (by simpa using hlt) hn1
   exact⟨t,by simpa using e⟩
  obtain⟨u,e2⟩:∃t,items2[i]=Value.int ms[i] t:=by
   obtain⟨t,e⟩:=Uq hj (i:=i) (by simpa using hlt2) hn2
   exact⟨t,by simpa using e⟩
  rw[Zte hn1,Zte hn2,HT.JJ] at h
  rw[hi1,hi2,e1,e2]
  obtain⟨e,he,hiff⟩:=HT.ZhZ A.in1 ⟨hp,g,d,tk,os⟩ ns[i] t ms[i] u
  refine wpAny_bind (he prog w _ _ ?_)
  cases e with
  |true =>
   rw[if_pos (hiff.mp rfl)] at h
   wp_walk
   rw[hc]
   exact⟨plainId_quiet plain_eq_loop _,codeAny_builtin entry_eq_loop (by
    rw[Around.under_plainId plain_eq_loop _]
    exact ih (i+1) (by omega) (by omega) prog w A R _ ⟨hl,hb,h⟩)⟩
  |false =>
   rw[if_neg (fun q=>absurd (hiff.mpr q) Bool.false_ne_true)] at h
   wp_walk using wpAny_loadPart' hl,wpAny_loadPart' hb
   rw[hi1,hi2,e1,e2]
   have hri:=HT.Zhe A.in1 ⟨hp,g,d,tk,os⟩ ns[i] t ms[i] u prog w
   wp_walk using hri
   exact h
theorem ZbN(l b:Addr)(items items2:Array Value)(n n2:Nat)(dd dd2:Option Addr)(sl sl2:Array (Option Value))(ns ms:List Int)(hi:IntsAre items.toList ns)(hj:IntsAre items2.toList ms) :
  Meets (Builtin.«list.__lt__» ⟨[.ref l,.ref b],[]⟩)
   (fun _ R s=>s.heap.get? l=some { cls:=.type "list",dict:=dd,data:=.seq items n,slots:=sl }/\s.heap.get? b=some { cls:=.type "list",dict:=dd2,data:=.seq items2 n2,slots:=sl2 } /\
    R (.ok (.ret (.bool (HT.Z1 ns ms)))) s):=by
 intro prog w A R s h
 obtain⟨hp,g,d,tk,os⟩:=s;obtain⟨hl,hb,h⟩:=h
 have f3:=AutoSeq1.sub_list_list
 wp_walk using wpAny_loadPart' hl,wpAny_loadPart' hb
 exact⟨plainId_quiet plain_eq_loop _,codeAny_builtin entry_eq_loop (by
  rw[Around.under_plainId plain_eq_loop _]
  exact ZjV l b items items2 n n2 dd dd2 sl sl2 ns ms hi hj _ 0 rfl (Zts _) prog w A R _ ⟨hl,hb,by simpa using h⟩)⟩
end
section
variable {prog:Program}{w:World}{A:Around}{E:Value->Shared->Prop}{s:Shared}
theorem Zet{l b:Addr}{items items2:Array Value}{ns ms:List Int}{Q:Value->Shared->Prop}(hl:s.heap.IsList l items)(hb:s.heap.IsList b items2)(hi:IntsAre items.toList ns)(hj:IntsAre items2.toList ms)(hu:A.units<cLine)(h:Q (.bool (HT.Z1 ns ms)) s):wpAny (model prog w) A (richCompare .Lt (.ref l) (.ref b)) Q E s:=by
 obtain⟨⟨cls,dd,data,sl⟩,ho,hc,n,hd⟩:=id hl
 obtain⟨⟨cls2,dd2,data2,sl2⟩,ho2,hc2,n2,hd2⟩:=id hb
 simp only at hc hd hc2 hd2
 subst hc hd hc2 hd2
 exact richCompare_meets_room (op:=.Lt) ⟨_,ho,rfl⟩ ⟨_,ho2,rfl⟩ PySem.F.slot_list_lt PySem.F.entry_list_lt (PySem.F.args_list_lt_2 _ _) (ZbN l b items items2 n n2 dd dd2 sl sl2 ns ms hi hj)
  ⟨ho,ho2,show Value.bool (HT.Z1 ns ms)≠Value.notImplemented/\Q (.bool (HT.Z1 ns ms)) s from ⟨(fun x=>nomatch x),h⟩⟩ hu
end
end HL
namespace L2
open PySem PySem.Spec PyProof.Rows
section
variable {X:Cx}
noncomputable def Zj3(K:W.Frag)(g:List Int->List Int->Bool):R2:=fun x y H Q=>∃a b ns ms,x=.ref a/\y=.ref b/\SqL K H a (ns.map V.int)/\SqL K H b (ms.map V.int)/\Q (.bl (g ns ms)) H
theorem Zl2(hu:X.A.units+1<cLine):OpR X (compareOp .Lt) (Zj3 X.K HT.Z1):=by
 intro pins s σ H x y v u Q I rx ry h
 obtain⟨a,b,ns,ms,rfl,rfl,ha,hb,q⟩:=h
 cases rx;cases ry
 obtain⟨its,r1,p1,_⟩:=I.list ha
 obtain⟨its2,r2,p2,_⟩:=I.list hb
 exact HL.Zet p1.isList p2.isList (by simpa using VR r1) (by simpa using VR r2) (by omega) ⟨.bl (HT.Z1 ns ms),H,I,rfl,q⟩
theorem Zis(hc:X.calm=true):Vx X (.builtin "sum") (fun xs H Q=>∃p,∃ns:List Int,xs=[.ref p]/\SqL X.K H p (ns.map V.int)/\Q (.int ns.sum) H):=by
 intro pins s σ H xs us Q I r h
 obtain⟨p,ns,rfl,hq,q⟩:=h
 obtain⟨u,rfl,rx⟩:=Qb r
 cases rx
 obtain⟨its,r',pl,hz⟩:=I.list hq
 have hi:IntsAre its ns:=VR r'
 obtain⟨xs,hx⟩:=hi.allInts.items
 have hl':s.heap.IsList p (intItems xs):=hx▸pl.isList
 refine sum_intListG (I.ok.hd hc) hl' fun h' tk t' hk=>?_
 have e1:ns=xs.toList.map (·.1):=by
  rw[<- nums_intItems,<- hx]
  exact(show numsOf its.toArray.toList=ns from hi.numsOf).symm
 have e2:preSum (numAt xs) xs.size=ns.sum:=by
  rw[preSum_eq,Ztn (by simp),e1]
 rw[e2]
 exact⟨.int ns.sum,H,I.kept hk,⟨_,rfl⟩,q⟩
theorem QY:∀{bs:List Bool}{us:List Value},ZY (bs.map V.bl) us->LSm.BoolsAre us bs
 |[],_,.nil=>.nil
 |b::bs,_,.cons r t=>by
  cases r
  exact .cons b (QY t)
theorem Zit(hc:X.calm=true):Vx X (.builtin "all") (fun xs H Q=>∃p,∃bs:List Bool,xs=[.ref p]/\SqL X.K H p (bs.map V.bl)/\Q (.bl (bs.all id)) H):=by
 intro pins s σ H xs us Q I r h
 obtain⟨p,bs,rfl,hq,q⟩:=h
 obtain⟨u,rfl,rx⟩:=Qb r
 cases rx
 obtain⟨its,r',pl,hz⟩:=I.list hq
 have hb:=QY r'
 have hlt:p<s.heap.objs.size:=by obtain⟨_,e,_⟩:=pl.isList;exact Heap.lt_size e
 refine call_all_walk (wpAny_pyIter_list pl.isList ?_)
 refine⟨s.heap.objs.size,[s.heap.objs.size,p],[s.heap.objs.size],its.toArray.size,_,_,fun i=>(bs[i]?).getD true,rfl,Walks.list (A:=X.A.in1) (I.ok.hd hc) _ p (Ztm hlt) its.toArray,
  ⟨⟨_,Heap.get?_push_size _ rfl,rfl,rfl⟩,pl.isList.push _⟩,fun i v s' Q' E' hP hQ=>?_,fun h' tk hk=>?_⟩
 ·obtain⟨b,e,rfl⟩:=hb.get i v (by simpa using hP)
  dsimp only at hQ
  rw[e,Zuw] at hQ
  exact wpAny_truthy_bool hQ
 ·rw[ZsR,hb.length,LSm.range_all]
  exact⟨.bl (bs.all id),H,I.kept (LSm.kept_iter hk),rfl,q⟩
end
end L2
namespace HL
open PySem PyProof.Rows
section
end
section
open PySem.SeqAt
open PySem.AutoSeq1 (wpAny_loadPart')
open PySem.MeetsSeq PySem.MeetsSeq2 PySem.MeetsSeq3
end
end HL
namespace HL
open PySem
theorem JX:∀a:List Int,HT.Z1 a a=false
 |[]=>rfl
 |x::xs=>by rw[HT.JJ,if_pos rfl];exact JX xs
theorem Uo:∀{a b c:List Int},HT.Z1 a b=true->HT.Z1 b c=true->HT.Z1 a c=true
 |[],[],_,h,_=>by simp[HT.Z1] at h
 |[],_::_,[],_,h=>by simp[HT.Z1] at h
 |[],_::_,_::_,_,_=>rfl
 |_::_,[],_,h,_=>by simp[HT.Z1] at h
 |_::_,_::_,[],_,h=>by simp[HT.Z1] at h
 |x::xs,y::ys,z::zs,h1,h2=>by
  rw[HT.JJ] at h1 h2 ⊢
  by_cases e1:x=y
  ·rw[if_pos e1] at h1
   subst e1
   by_cases e2:x=z
   ·rw[if_pos e2] at h2 ⊢
    exact Uo h1 h2
   ·rw[if_neg e2] at h2 ⊢
    exact h2
  ·rw[if_neg e1] at h1
   have h1':=of_decide_eq_true h1
   by_cases e2:y=z
   ·subst e2
    rw[if_neg e1]
    exact h1
   ·rw[if_neg e2] at h2
    have h2':=of_decide_eq_true h2
    rw[if_neg (by omega)]
    exact decide_eq_true (by omega)
theorem JN:∀{a b:List Int},HT.Z1 a b=false->HT.Z1 b a=false->a=b
 |[],[],_,_=>rfl
 |[],_::_,h,_=>by simp[HT.Z1] at h
 |_::_,[],_,h=>by simp[HT.Z1] at h
 |x::xs,y::ys,h1,h2=>by
  rw[HT.JJ] at h1 h2
  by_cases e:x=y
  ·subst e
   rw[if_pos rfl] at h1 h2
   rw[JN h1 h2]
  ·rw[if_neg e] at h1
   rw[if_neg (Ne.symm e)] at h2
   have:=of_decide_eq_false h1
   have:=of_decide_eq_false h2
   omega
end HL
namespace L2
open PySem PySem.Spec PyProof.Rows
section
end
def Dfn(K:W.Frag)(mg:Str->Option Value)(x:Str)(st:Stmt):Prop:=∃f fd,Fun K x x st f fd/\mg x=some (.ref f)
noncomputable abbrev Zu(x:Str)(st:Stmt)(ps:List Str):Prop:=∀(kV doc pm:Value) (an:Option Addr) (cdv ct:Value) (us:List Value),us.length=ps.length ->
 bindArgs (PySem.W.fnOf x x (US st) (Vd st) (Zn st) .none kV doc pm an cdv ct) ⟨us,[]⟩=pure (ps.zip us)
def Ok(P:Program)(w:World)(K:W.Frag)(mg:Str->Option Value)(base:Heap)(k:Nat)(x:Str)(ps:List Str)(sp:Sp):Prop:=
 ∃f fd,JB P w K mg base CX0 k f fd ps sp/\mg x=some (.ref f)/\PySem.W.keepIn K (.ref f)=true/\Zdk K fd ps []
theorem JH{P:Program}{w:World}{K:W.Frag}{mg:Str->Option Value}{base:Heap}{k:Nat}{x:Str}{st:Stmt}{ps:List Str}{sp:Sp}(d:Dfn K mg x st)(b:Zu x st ps)(h:∀{f fd},Fun K x x st f fd->JB P w K mg base CX0 k f fd ps sp):Ok P w K mg base k x ps sp:=by
 obtain⟨f,fd,F,hm⟩:=d
 exact⟨f,fd,h F,hm,F.kp,F.binds b⟩
section
variable {X:Cx}{k:Nat}{x:Str}{ps:List Str}{sp:Sp}{p pos:Pos}{e:Expr}{es:List Expr}{t:TA}
noncomputable def Zak(sp:Sp)(t:TA):TE:=fun σ H Q=>t σ H fun vs H1=>sp vs H1 Q E0
theorem Zq(G:Ok X.prog X.w X.K X.mg X.base k x ps sp)(hr:Uu k X.A)(hg:Gl X x)(ha:PA X (e::es) t)(hdb:(x==("__debug__":Str))=false:=by decide)(he:starEach (e::es) X.env=(false,eval e X.env)::starEach es X.env:=by rfl)(hpl:(backTo pos (starEach es X.env)).any (·.1)=false:=by rfl):PE X (.Call (.Name x p) (e::es) [] pos) (Zak sp t):=by
 obtain⟨f,fd,F,hm,hk,hb⟩:=G
 intro pins s σ H Q I h
 refine ZjC (CX:=CX0) (E:=E0) (dvs:=[]) F hr hg hm hk hb .nil Zlk ha hdb he hpl pins s σ H Q I ?_
 have e:(fun vs H1=>sp (vs++[]) H1 Q E0)=fun vs H1=>sp vs H1 Q E0:=by funext vs H1;rw[ZtS]
 show t σ H (fun vs H1=>sp (vs++[]) H1 Q E0)
 rw[e]
 exact h
theorem Zfu(G:Ok X.prog X.w X.K X.mg X.base k x ps sp)(hr:Uu k X.A)(hg:Gl X x)(hdb:(x==("__debug__":Str))=false:=by decide):PE X (.Call (.Name x p) [] [] pos) (Zak sp ZeV):=by
 obtain⟨f,fd,F,hm,hk,hb⟩:=G
 exact Zhn (CX:=CX0) (E:=E0) (dvs:=[]) F hr hg hm hk hb .nil Zlk hdb
theorem ZaK{i:Int}(hm:∃t,X.mg x=some (.int i t))(hg:Gl X x)(hd:(x==("__debug__":Str))=false:=by decide):PE X (.Name x pos) (tC (.int i)):=by
 obtain⟨t,hm⟩:=hm
 exact ZjB (v:=.int i) hg hm ⟨t,rfl⟩ hd
theorem ZhU:Zno X (Zlf X.K):=by
 intro pins s σ H o i ov iv Q I ro ri h
 obtain⟨p,xs,i,z,rfl,rfl,hq,he,q⟩:=h
 cases ro
 obtain⟨t,rfl⟩:=ri
 obtain⟨its,r,pl,hz⟩:=I.list hq
 obtain⟨j,h1,h2,h3,h4,h5⟩:=Zbw he
 obtain⟨w,ew,rw'⟩:=r.get h2
 have hl:=r.length
 have hn:=QF
 have fin:EP X pins σ Q w s:=⟨z,H,I,rw',q⟩
 by_cases h0:0<=i
 ·have hj:i.toNat=j:=by
   rw[seqIndex_of h0 h5] at h1
   exact Option.some.inj h1
  exact wpAny_getItem_list pl.isList h0 (by omega) (by rw[hj];simpa using ew) fin
 ·have hj:(i+(its.toArray.size:Int)).toNat=j:=by
   rw[seqIndex_neg (by omega) h4] at h1
   rw[ZsR,<- hl]
   exact Option.some.inj h1
  exact wpAny_getItem_list_neg pl.isList (by omega) (by rw[ZsR]<;>omega) (by omega) (by rw[hj];simpa using ew) fin
end
theorem Zg5{X:Cx}:Vx X (.builtin "len") (fun xs H Q=>∃p ys,xs=[.ref p]/\(SqL X.K H p ys\/SqT X.K H p ys)/\Q (.int ys.length) H):=Zcj
theorem Jf:bootBuiltins "len"=some (.builtin "len"):=by decide +kernel
theorem Z2:bootBuiltins "isinstance"=some (.builtin "isinstance"):=by decide +kernel
theorem Zcq:bootBuiltins "sum"=some (.builtin "sum"):=by decide +kernel
theorem ZgB:bootBuiltins "all"=some (.builtin "all"):=by decide +kernel
theorem J3:bootBuiltins "list"=some (.type "list"):=by decide +kernel
theorem Zej:bootBuiltins "int"=some (.type "int"):=by decide +kernel
theorem Zda:bootBuiltins "bool"=some (.type "bool"):=by decide +kernel
theorem Zbu:bootBuiltins "tuple"=some (.type "tuple"):=by decide +kernel
section
variable {X:Cx}{K:W.Frag}
theorem Zp(e:X.K=K:=by rfl):IxR X (rIx K):=by subst e;exact ZlL
theorem Z5(e:X.K=K:=by rfl):Vx X (.builtin "len") (fun xs H Q=>∃p ys,xs=[.ref p]/\(SqL K H p ys\/SqT K H p ys)/\Q (.int ys.length) H):=by subst e;exact Zg5
theorem VI(hc:X.calm=true)(e:X.K=K:=by rfl):Vx X (.builtin "sum") (fun xs H Q=>∃p,∃ns:List Int,xs=[.ref p]/\SqL K H p (ns.map V.int)/\Q (.int ns.sum) H):=by subst e;exact Zis hc
theorem QX(hc:X.calm=true)(e:X.K=K:=by rfl):Vx X (.builtin "all") (fun xs H Q=>∃p,∃bs:List Bool,xs=[.ref p]/\SqL K H p (bs.map V.bl)/\Q (.bl (bs.all id)) H):=by subst e;exact Zit hc
theorem J1(e:X.K=K:=by rfl):Vx X (.type "list") (fun xs H Q=>∃p ys,xs=[.ref p]/\(SqL K H p ys\/SqT K H p ys)/\∀l,H l=none->Q (.ref l) (upd H l (.lst ys))):=by subst e;exact Zci
theorem Zd1(e:X.K=K:=by rfl):SlR X (ZmH K):=by subst e;exact Zjw
theorem ZfZ(e:X.K=K:=by rfl):Zno X (Zlf K):=by subst e;exact ZhU
theorem ZT{tg l:Expr}{tl:TE}(hl:PE X l tl)(e:X.K=K:=by rfl):PI X tg l (ZfX K tl):=by subst e;exact Zj8 hl
variable {u:TS}{H:Hp}{b:TA}
theorem ZdT{n:Nat}{k:Int}(h0:0<=k)(h1:k<n):ixN n k=some k.toNat:=by unfold ixN;rw[if_pos h0,if_pos h1]
theorem Z6.upd{H H':Hp}{p:Addr}{o:HO}(h:Z6 H H')(hp:H p=none):Z6 H (upd H' p o):=fun b u e=>by
 rw[Zy (ZB e hp)]
 exact h b u e
theorem Z6.new{H:Hp}{p:Addr}{o:HO}(hp:H p=none):Z6 H (L2.upd H p o):=Z6.upd (Z6.refl H) hp
theorem Qq{n:Nat}(h:n<=1000):n<=sizeLine:=Zth h (by decide)
end
inductive Sh where
 |dk (ks:List Key)|dt (ks:List (List Key))|ob (n:Str) (fs:List Str)
  |jk
  |ls
inductive PV where
 |non|bl (b:Bool)|int (i:Int)|str (x:Str)|lst (xs:List PV)|tup (xs:List PV)
  |exc (n:Str)
  |exa (n:Str) (i:Int)
  |box (p:Option Addr) (s:Sh) (xs:List PV)
  |fz (xs:List PV)
mutual
noncomputable def PV.flat:PV->Bool
 |.lst _=>false
 |.tup xs=>PV.flats xs
 |.non=>true
 |.bl _=>true
 |.int _=>true
 |.str _=>true
 |.exc _=>true
 |.exa _ _=>true
 |.box _ _ _=>false
 |.fz xs=>PV.flats xs
noncomputable def PV.flats:List PV->Bool
 |[]=>true
 |x::xs=>x.flat&&PV.flats xs
end
def KL(K:W.Frag)(a:Addr)(xs:List V):Prop:=
 ∃(o:Obj) (its:Array Value) (n:Nat),K.lookup a=some o/\o.cls=.type "list"/\o.dict=none/\o.data=.seq its n/\its.size<=sizeLine/\ZY xs its.toList
noncomputable def ImO:HO->Prop
 |.tup _=>True
 |.frz _ _=>True
 |.xd _=>True
 |_=>False
def Im(K:W.Frag)(H:Hp)(a:Addr)(u:HO):Prop:=H a=some u/\ImO u
noncomputable def Lvo:HO->Prop
 |.lst _=>True
 |.dK _=>True
 |.dT _=>True
 |.ins _ _ _=>True
 |_=>False
noncomputable abbrev LvO:={ u:HO // Lvo u }
def Znl(K:W.Frag)(n:Str)(C:Addr):Prop:=PySem.W.nsIn K mainGlobals n=some (some (.ref C))
def Zmt(K:W.Frag)(H:Hp)(n:Str)(v:V):Prop:=∃a o C,v=.ref a/\Im K H a (.frz o (.own a))/\o.cls=.ref C/\o.dict=none/\PySem.W.notCls o=true/\Znl K n C
def Zmu(K:W.Frag)(H:Hp)(n:Str)(i:Int)(v:V):Prop:=∃a o C d fs,v=.ref a/\Im K H a (.frz o (.own a))/\Im K H d (.xd fs)/\o.cls=.ref C/\o.dict=some d/\PySem.W.notCls o=true/\Znl K n C/\fs=[(("at":Str),V.int i)]
noncomputable def ZkG(K:W.Frag):Sh->List V->HO->Prop
 |.dk ks,vs,u=>ks.length=vs.length/\u=.dK (ks.zip vs)
 |.dt ks,vs,u=>ks.length=vs.length/\u=.dT (ks.zip vs)
 |.ob n fs,vs,u=>fs.length=vs.length/\∃C dx,u=.ins C dx (fs.zip vs)/\Znl K n C
 |.jk,vs,u=>vs=[]/\∃ws,u=.lst ws
 |.ls,vs,u=>u=.lst vs
def Zm6(p:Option Addr)(a:Addr):Prop:=match p with
 |none=>True
 |some b=>a=b
theorem ZkG.lv{K:W.Frag}{s:Sh}{vs:List V}{u:HO}(h:ZkG K s vs u):Lvo u:=by
 cases s with
 |dk ks=>obtain⟨_,rfl⟩:=h;trivial
 |dt ks=>obtain⟨_,rfl⟩:=h;trivial
 |ob n fs=>obtain⟨_,C,dx,rfl,_⟩:=h;trivial
 |jk=>obtain⟨_,ws,rfl⟩:=h;trivial
 |ls=>cases h;trivial
theorem ZaW{u o:HO}(h:Lvo u)(h':ImO o):o≠u:=by
 intro e;subst e
 cases o<;>first|exact h|exact h'
def FzL(K:W.Frag)(H:Hp)(a:Addr)(vs:List V):Prop:=∃o,Im K H a (.frz o (.lst vs))
mutual
noncomputable def Rep(K:W.Frag)(H:Hp)(S:Addr->Prop):PV->V->Prop
 |.non,v=>v=.non
 |.bl b,v=>v=.bl b
 |.int i,v=>v=.int i
 |.str x,v=>v=.str x
 |.exc n,v=>Zmt K H n v
 |.exa n i,v=>Zmu K H n i v
 |.box p s xs,v=>∃a vs u,v=.ref a/\(Rd H a u/\S a)/\(Zm6 p a/\ZkG K s vs u)/\Reps K H S xs vs
 |.lst xs,v=>∃a vs,v=.ref a/\((Rd H a (.lst vs)/\S a)\/KL K a vs)/\Reps K H S xs vs
 |.tup xs,v=>∃a vs,v=.ref a/\Im K H a (.tup vs)/\Reps K H S xs vs
 |.fz xs,v=>∃a vs,v=.ref a/\FzL K H a vs/\Reps K H S xs vs
noncomputable def Reps(K:W.Frag)(H:Hp)(S:Addr->Prop):List PV->List V->Prop
 |[],vs=>vs=[]
 |x::xs,vs=>∃v r,vs=v::r/\Rep K H S x v/\Reps K H S xs r
end
mutual
noncomputable def Jg(K:W.Frag)(H:Hp):PV->V->List Addr->Prop
 |.non,v,F=>v=.non/\F=[]
 |.bl b,v,F=>v=.bl b/\F=[]
 |.int i,v,F=>v=.int i/\F=[]
 |.str x,v,F=>v=.str x/\F=[]
 |.exc n,v,F=>Zmt K H n v/\F=[]
 |.exa n i,v,F=>Zmu K H n i v/\F=[]
 |.box p s xs,v,F=>∃a vs u G,v=.ref a/\H a=some u/\(Zm6 p a/\ZkG K s vs u)/\Trees K H xs vs G/\a ∉ G/\F=a::G
 |.lst xs,v,F=>∃a vs G,v=.ref a/\H a=some (.lst vs)/\Trees K H xs vs G/\a ∉ G/\F=a::G
 |.tup xs,v,F=>∃a vs,v=.ref a/\Im K H a (.tup vs)/\Trees K H xs vs F
 |.fz xs,v,F=>∃a vs,v=.ref a/\FzL K H a vs/\Trees K H xs vs F
noncomputable def Trees(K:W.Frag)(H:Hp):List PV->List V->List Addr->Prop
 |[],vs,F=>vs=[]/\F=[]
 |x::xs,vs,F=>∃v r G1 G2,vs=v::r/\Jg K H x v G1/\Trees K H xs r G2/\(∀a∈G1,a ∉ G2)/\F=G1++G2
end
section
variable {K:W.Frag}{H H':Hp}{S S':Addr->Prop}
mutual
theorem Rep.mono(h1:∀a u,S a->Rd H a u->Rd H' a u/\S' a)(h2:∀a u,Im K H a u->Im K H' a u):∀{x:PV}{v:V},Rep K H S x v->Rep K H' S' x v
 |.non,_,h=>h
 |.bl _,_,h=>h
 |.int _,_,h=>h
 |.str _,_,h=>h
 |.exc n,_,h=>let ⟨a,o,C,e1,e2,e3⟩:=h;⟨a,o,C,e1,h2 a _ e2,e3⟩
 |.exa n i,_,h=>let ⟨a,o,C,d,fs,e1,e2,e2',e3⟩:=h;⟨a,o,C,d,fs,e1,h2 a _ e2,h2 d _ e2',e3⟩
 |.box p s xs,_,h=>by
  obtain⟨a,vs,u,rfl,⟨n1,n2⟩,hb,hr⟩:=h
  exact⟨a,vs,u,rfl,h1 a u n2 n1,hb,Reps.mono h1 h2 hr⟩
 |.lst xs,_,h=>by
  obtain⟨a,vs,rfl,hn,hr⟩:=h
  refine⟨a,vs,rfl, ?_,Reps.mono h1 h2 hr⟩
  rcases hn with ⟨n1,n2⟩|n
  ·exact .inl (h1 a _ n2 n1)
  ·exact .inr n
 |.tup xs,_,h=>by
  obtain⟨a,vs,rfl,hn,hr⟩:=h
  exact⟨a,vs,rfl,h2 a _ hn,Reps.mono h1 h2 hr⟩
 |.fz xs,_,h=>by
  obtain⟨a,vs,rfl,⟨o,hn⟩,hr⟩:=h
  exact⟨a,vs,rfl,⟨o,h2 a _ hn⟩,Reps.mono h1 h2 hr⟩
theorem Reps.mono(h1:∀a u,S a->Rd H a u->Rd H' a u/\S' a)(h2:∀a u,Im K H a u->Im K H' a u):∀{xs:List PV}{vs:List V},Reps K H S xs vs->Reps K H' S' xs vs
 |[],_,h=>h
 |x::xs,_,h=>by
  obtain⟨v,r,rfl,h3,h4⟩:=h
  exact⟨v,r,rfl,Rep.mono h1 h2 h3,Reps.mono h1 h2 h4⟩
end
mutual
theorem Jg.mono:∀{x:PV}{v:V}{F:List Addr},(∀a∈F,∀o,H a=some o->H' a=some o)->(∀a vs,Im K H a vs->Im K H' a vs)->Jg K H x v F->Jg K H' x v F
 |.non,_,_,_,_,h=>h
 |.bl _,_,_,_,_,h=>h
 |.int _,_,_,_,_,h=>h
 |.str _,_,_,_,_,h=>h
 |.exc n,_,_,_,h2,h=>let ⟨⟨a,o,C,e1,e2,e3⟩,e4⟩:=h;⟨⟨a,o,C,e1,h2 a _ e2,e3⟩,e4⟩
 |.exa n i,_,_,_,h2,h=>let ⟨⟨a,o,C,d,fs,e1,e2,e2',e3⟩,e4⟩:=h;⟨⟨a,o,C,d,fs,e1,h2 a _ e2,h2 d _ e2',e3⟩,e4⟩
 |.box p s xs,_,_,h1,h2,h=>by
  obtain⟨a,vs,u,G,rfl,ha,hb,ht,hn,rfl⟩:=h
  exact⟨a,vs,u,G,rfl,h1 a (by simp) _ ha,hb,Trees.mono (fun b hb o e=>h1 b (by simp[hb]) o e) h2 ht,hn,rfl⟩
 |.lst xs,_,_,h1,h2,h=>by
  obtain⟨a,vs,G,rfl,ha,ht,hn,rfl⟩:=h
  exact⟨a,vs,G,rfl,h1 a (by simp) _ ha,Trees.mono (fun b hb o e=>h1 b (by simp[hb]) o e) h2 ht,hn,rfl⟩
 |.tup xs,_,_,h1,h2,h=>by
  obtain⟨a,vs,rfl,ha,ht⟩:=h
  exact⟨a,vs,rfl,h2 a _ ha,Trees.mono h1 h2 ht⟩
 |.fz xs,_,_,h1,h2,h=>by
  obtain⟨a,vs,rfl,⟨o,ha⟩,ht⟩:=h
  exact⟨a,vs,rfl,⟨o,h2 a _ ha⟩,Trees.mono h1 h2 ht⟩
theorem Trees.mono:∀{xs:List PV}{vs:List V}{F:List Addr},(∀a∈F,∀o,H a=some o->H' a=some o)->(∀a vs,Im K H a vs->Im K H' a vs)->Trees K H xs vs F->Trees K H' xs vs F
 |[],_,_,_,_,h=>h
 |x::xs,_,_,h1,h2,h=>by
  obtain⟨v,r,G1,G2,rfl,h3,h4,hd,rfl⟩:=h
  exact⟨v,r,G1,G2,rfl,Jg.mono (fun b hb o e=>h1 b (by simp[hb]) o e) h2 h3,Trees.mono (fun b hb o e=>h1 b (by simp[hb]) o e) h2 h4,hd,rfl⟩
end
mutual
theorem Jg.rep:∀{x:PV}{v:V}{F:List Addr},(∀a∈F,S a)->Jg K H x v F->Rep K H S x v
 |.non,_,_,_,h=>h.1
 |.bl _,_,_,_,h=>h.1
 |.int _,_,_,_,h=>h.1
 |.str _,_,_,_,h=>h.1
 |.exc _,_,_,_,h=>h.1
 |.exa _ _,_,_,_,h=>h.1
 |.box p s xs,_,_,h1,h=>by
  obtain⟨a,vs,u,G,rfl,ha,hb,ht,hn,rfl⟩:=h
  exact⟨a,vs,u,rfl,⟨.inl ha,h1 a (by simp)⟩,hb,Trees.reps (fun b hb=>h1 b (by simp[hb])) ht⟩
 |.lst xs,_,_,h1,h=>by
  obtain⟨a,vs,G,rfl,ha,ht,hn,rfl⟩:=h
  exact⟨a,vs,rfl,.inl ⟨.inl ha,h1 a (by simp)⟩,Trees.reps (fun b hb=>h1 b (by simp[hb])) ht⟩
 |.tup xs,_,_,h1,h=>by
  obtain⟨a,vs,rfl,ha,ht⟩:=h
  exact⟨a,vs,rfl,ha,Trees.reps h1 ht⟩
 |.fz xs,_,_,h1,h=>by
  obtain⟨a,vs,rfl,ha,ht⟩:=h
  exact⟨a,vs,rfl,ha,Trees.reps h1 ht⟩
theorem Trees.reps:∀{xs:List PV}{vs:List V}{F:List Addr},(∀a∈F,S a)->Trees K H xs vs F->Reps K H S xs vs
 |[],_,_,_,h=>h.1
 |x::xs,_,_,h1,h=>by
  obtain⟨v,r,G1,G2,rfl,h3,h4,hd,rfl⟩:=h
  exact⟨v,r,rfl,Jg.rep (fun b hb=>h1 b (by simp[hb])) h3,Trees.reps (fun b hb=>h1 b (by simp[hb])) h4⟩
end
mutual
theorem Jg.alive:∀{x:PV}{v:V}{F:List Addr},Jg K H x v F->∀a∈F,∃vs:LvO,H a=some vs.1
 |.non,_,_,h=>by rw[h.2];simp
 |.bl _,_,_,h=>by rw[h.2];simp
 |.int _,_,_,h=>by rw[h.2];simp
 |.str _,_,_,h=>by rw[h.2];simp
 |.exc _,_,_,h=>by rw[h.2];simp
 |.exa _ _,_,_,h=>by rw[h.2];simp
 |.box p s xs,_,_,h=>by
  obtain⟨a,vs,u,G,rfl,ha,hb,ht,hn,rfl⟩:=h
  intro b hb'
  rcases ZsT.mp hb' with rfl|hb'
  ·exact⟨⟨u,hb.2.lv⟩,ha⟩
  ·exact Trees.alive ht b hb'
 |.lst xs,_,_,h=>by
  obtain⟨a,vs,G,rfl,ha,ht,hn,rfl⟩:=h
  intro b hb
  rcases ZsT.mp hb with rfl|hb
  ·exact⟨⟨.lst vs,trivial⟩,ha⟩
  ·exact Trees.alive ht b hb
 |.tup xs,_,_,h=>by
  obtain⟨a,vs,rfl,ha,ht⟩:=h
  exact Trees.alive ht
 |.fz xs,_,_,h=>by
  obtain⟨a,vs,rfl,ha,ht⟩:=h
  exact Trees.alive ht
theorem Trees.alive:∀{xs:List PV}{vs:List V}{F:List Addr},Trees K H xs vs F->∀a∈F,∃vs:LvO,H a=some vs.1
 |[],_,_,h=>by rw[h.2];simp
 |x::xs,_,_,h=>by
  obtain⟨v,r,G1,G2,rfl,h3,h4,hd,rfl⟩:=h
  intro b hb
  rcases ZsO.mp hb with hb|hb
  ·exact Jg.alive h3 b hb
  ·exact Trees.alive h4 b hb
end
mutual
theorem Rep.tree:∀{x:PV}{v:V},x.flat=true->Rep K H S x v->Jg K H x v []
 |.non,_,_,h=>⟨h,rfl⟩
 |.bl _,_,_,h=>⟨h,rfl⟩
 |.int _,_,_,h=>⟨h,rfl⟩
 |.str _,_,_,h=>⟨h,rfl⟩
 |.exc _,_,_,h=>⟨h,rfl⟩
 |.exa _ _,_,_,h=>⟨h,rfl⟩
 |.box p s xs,_,f,_=>by simp[PV.flat] at f
 |.lst xs,_,f,_=>by simp[PV.flat] at f
 |.tup xs,_,f,h=>by
  obtain⟨a,vs,rfl,ha,ht⟩:=h
  exact⟨a,vs,rfl,ha,Reps.trees (by simpa[PV.flat] using f) ht⟩
 |.fz xs,_,f,h=>by
  obtain⟨a,vs,rfl,ha,ht⟩:=h
  exact⟨a,vs,rfl,ha,Reps.trees (by simpa[PV.flat] using f) ht⟩
theorem Reps.trees:∀{xs:List PV}{vs:List V},PV.flats xs=true->Reps K H S xs vs->Trees K H xs vs []
 |[],_,_,h=>⟨h,rfl⟩
 |x::xs,_,f,h=>by
  obtain⟨v,r,rfl,h3,h4⟩:=h
  simp only[PV.flats,Bool.and_eq_true] at f
  exact⟨v,r,[],[],rfl,Rep.tree f.1 h3,Reps.trees f.2 h4,by simp,rfl⟩
end
theorem Rep.any(h:Rep K H S x v):Rep K H (fun _=>True) x v:=Rep.mono (fun a vs _ r=>⟨r,trivial⟩) (fun a vs r=>r) h
theorem Reps.any(h:Reps K H S xs vs):Reps K H (fun _=>True) xs vs:=Reps.mono (fun a vs _ r=>⟨r,trivial⟩) (fun a vs r=>r) h
theorem Rep.flatS{x:PV}{v:V}(f:x.flat=true)(h:Rep K H S x v):Rep K H S' x v:=Jg.rep (F:=[]) (by simp) (Rep.tree f h)
theorem Reps.length:∀{xs:List PV}{vs:List V},Reps K H S xs vs->vs.length=xs.length
 |[],_,h=>by rw[h];rfl
 |x::xs,_,h=>by
  obtain⟨v,r,rfl,h3,h4⟩:=h
  simp[Reps.length h4]
theorem Trees.length{xs:List PV}{vs:List V}{F:List Addr}(h:Trees K H xs vs F):vs.length=xs.length:=(Trees.reps (S:=fun _=>True) (fun _ _=>trivial) h).length
theorem Reps.get:∀{xs:List PV}{vs:List V}{i:Nat}{x:PV},Reps K H S xs vs->xs[i]?=some x->∃v,vs[i]?=some v/\Rep K H S x v
 |[],_,_,_,_,e=>by simp at e
 |y::xs,_,0,x,h,e=>by
  obtain⟨v,r,rfl,h3,h4⟩:=h
  simp at e;subst e
  exact⟨v,rfl,h3⟩
 |y::xs,_,i+1,x,h,e=>by
  obtain⟨v,r,rfl,h3,h4⟩:=h
  obtain⟨w,e1,e2⟩:=Reps.get (i:=i) h4 (by simpa using e)
  exact⟨w,by simpa using e1,e2⟩
theorem Reps.one{x:PV}{v:V}(h:Rep K H S x v):Reps K H S [x] [v]:=⟨v,[],rfl,h,rfl⟩
theorem Reps.take:∀{xs:List PV}{vs:List V} (n:Nat),Reps K H S xs vs->Reps K H S (xs.take n) (vs.take n)
 |_,_,0,_=>by simp[Reps]
 |[],_,n+1,h=>by rw[h];rfl
 |y::xs,_,n+1,h=>by
  obtain⟨w,r,rfl,h3,h4⟩:=h
  exact⟨w,r.take n,rfl,h3,Reps.take n h4⟩
theorem Reps.drop:∀{xs:List PV}{vs:List V} (n:Nat),Reps K H S xs vs->Reps K H S (xs.drop n) (vs.drop n)
 |_,_,0,h=>h
 |[],_,n+1,h=>by rw[h];rfl
 |y::xs,_,n+1,h=>by
  obtain⟨w,r,rfl,h3,h4⟩:=h
  exact Reps.drop n h4
theorem Trees.append:∀{xs ys:List PV}{vs ws:List V}{F G:List Addr},Trees K H xs vs F->Trees K H ys ws G->(∀a∈F,a ∉ G)->Trees K H (xs++ys) (vs++ws) (F++G)
 |[],_,_,_,_,_,h,h',_=>by rw[h.1,h.2];exact h'
 |x::xs,_,_,_,_,_,h,h',hd=>by
  obtain⟨v,r,G1,G2,rfl,h3,h4,hd',rfl⟩:=h
  refine⟨v,r++_,G1,G2++_,rfl,h3,Trees.append h4 h' (fun a ha=>hd a (by simp[ha])),fun a ha z=>?_,by simp⟩
  rcases ZsO.mp z with z|z
  ·exact hd' a ha z
  ·exact hd a (by simp[ha]) z
theorem Trees.one{x:PV}{v:V}{F:List Addr}(h:Jg K H x v F):Trees K H [x] [v] F:=⟨v,[],F,[],rfl,h,⟨rfl,rfl⟩,by simp,by simp⟩
theorem PV.flats_all:∀{xs:List PV},PV.flats xs=true ↔ ∀x∈xs,x.flat=true
 |[]=>by simp[PV.flats]
 |x::xs=>by simp[PV.flats,PV.flats_all (xs:=xs)]
theorem PV.flats_ints(ns:List Int):PV.flats (ns.map PV.int)=true:=PV.flats_all.mpr (by simp[PV.flat])
theorem Rd.same(e:Z6 H H')(h:Rd H a u):Rd H' a u:=by
 rcases h with h|⟨o,h⟩
 ·exact .inl (e _ _ h)
 ·exact .inr ⟨o,e _ _ h⟩
theorem Z6.im(e:Z6 H H'){k:HO}(h:Im K H a k):Im K H' a k:=⟨e _ _ h.1,h.2⟩
theorem Im.sqT{vs:List V}(h:Im K H a (.tup vs)):SqT K H a vs:=.inl (.inl h.1)
theorem Rep.same(e:Z6 H H')(h:Rep K H S x v):Rep K H' S x v:=Rep.mono (fun a vs s r=>⟨r.same e,s⟩) (fun a vs r=>e.im r) h
theorem Reps.same(e:Z6 H H')(h:Reps K H S xs vs):Reps K H' S xs vs:=Reps.mono (fun a vs s r=>⟨r.same e,s⟩) (fun a vs r=>e.im r) h
theorem Jg.same(e:Z6 H H')(h:Jg K H x v F):Jg K H' x v F:=Jg.mono (fun a _ o q=>e a o q) (fun a vs r=>e.im r) h
theorem Trees.same(e:Z6 H H')(h:Trees K H xs vs F):Trees K H' xs vs F:=Trees.mono (fun a _ o q=>e a o q) (fun a vs r=>e.im r) h
theorem Im.putL{p:Addr}{us:LvO}{o:HO}{k:HO}(hp:H p=some us.1)(h:Im K H a k):Im K (upd H p o) a k:=
 ⟨by rw[Zy (ZjT h.1 hp (ZaW us.2 h.2))];exact h.1,h.2⟩
theorem Im.put{p:Addr}{us:List V}{o:HO}{k:HO}(hp:H p=some (.lst us))(h:Im K H a k):Im K (upd H p o) a k:=Im.putL (us:=⟨.lst us,trivial⟩) hp h
theorem SqT.put{p:Addr}{us:List V}{o:HO}(hp:H p=some (.lst us))(h:Im K H a (.tup vs)):Im K (upd H p o) a (.tup vs):=Im.put hp h
theorem Jg.putL{p:Addr}{us:LvO}{o:HO}(hp:H p=some us.1)(hS:p ∉ F)(h:Jg K H x v F):Jg K (upd H p o) x v F:=
 Jg.mono (fun a ha o q=>by
  have hne:a≠p:=fun z=>hS (z▸ha)
  rw[Zy hne];exact q) (fun a vs r=>Im.putL hp r) h
theorem Trees.putL{p:Addr}{us:LvO}{o:HO}(hp:H p=some us.1)(hS:p ∉ F)(h:Trees K H xs vs F):Trees K (upd H p o) xs vs F:=
 Trees.mono (fun a ha o q=>by
  have hne:a≠p:=fun z=>hS (z▸ha)
  rw[Zy hne];exact q) (fun a vs r=>Im.putL hp r) h
theorem Jg.put{p:Addr}{us:List V}{o:HO}(hp:H p=some (.lst us))(hS:p ∉ F)(h:Jg K H x v F):Jg K (upd H p o) x v F:=Jg.putL (us:=⟨.lst us,trivial⟩) hp hS h
theorem Trees.put{p:Addr}{us:List V}{o:HO}(hp:H p=some (.lst us))(hS:p ∉ F)(h:Trees K H xs vs F):Trees K (upd H p o) xs vs F:=Trees.putL (us:=⟨.lst us,trivial⟩) hp hS h
end
inductive Md|U|P|S|T|O
 deriving DecidableEq
def NO(B:Addr->Prop)(F:Nat->List Addr)(R:List Addr)(a:Addr):Prop:=B a/\a ∉ R/\∀i,a ∉ F i
def UI(K:W.Frag)(H:Hp)(S:Addr->Prop)(m:Md)(x:PV)(o:Option (Option V))(G:List Addr):Prop:=match m with
 |.U=>G=[]
 |.P=>G=[]/\∃v,o=some (some v)/\x.flat=true/\Rep K H (fun _=>True) x v
 |.S=>G=[]/\∃v,o=some (some v)/\Rep K H S x v
 |.T=>∃a vs xs,o=some (some (.ref a))/\x=.lst xs/\H a=some (.lst vs)/\Reps K H S xs vs/\G=[a]
 |.O=>∃v,o=some (some v)/\Jg K H x v G
structure Ag(K:PySem.W.Frag)(B:Addr->Prop)(H0 H:Hp)(σ:St)(Γ:List Md)(ρ:List PV)(F:Nat->List Addr)(R:List Addr):Prop where
 same:Z6 H0 H
 own:∀a,H0 a=none->B a
 young:∀i,∀a∈F i,H0 a=none
 youngR:∀a∈R,H0 a=none
 live:∀i,∀a∈F i,∃vs:LvO,H a=some vs.1
 liveR:∀a∈R,∃vs:LvO,H a=some vs.1
 disj:∀i j,i≠j->∀a∈F i,a ∉ F j
 disjR:∀i,∀a∈F i,a ∉ R
 lenS:σ.length=Γ.length
 lenR:ρ.length=Γ.length
 slot:∀i,UI K H (NO B F R) (Γ.getD i .U) (ρ.getD i .non) σ[i]? (F i)
theorem UI.mono{K:W.Frag}{H H':Hp}{S S':Addr->Prop}{m:Md}{x:PV}{o:Option (Option V)}{G:List Addr}(h:UI K H S m x o G)(h1:∀a u,S a->Rd H a u->Rd H' a u/\S' a)(h2:∀a u,Im K H a u->Im K H' a u)(h3:∀a∈G,∀u,H a=some u->H' a=some u):UI K H' S' m x o G:=by
 cases m with
 |U=>exact h
 |P =>
  obtain⟨e,v,h4,h5,h6⟩:=h
  exact⟨e,v,h4,h5,Jg.rep (F:=[]) (by simp) (Jg.mono (by simp) h2 (Rep.tree h5 h6))⟩
 |S =>
  obtain⟨e,v,h4,h5⟩:=h
  exact⟨e,v,h4,Rep.mono h1 h2 h5⟩
 |T =>
  obtain⟨a,vs,xs,h4,h5,h6,h7,rfl⟩:=h
  exact⟨a,vs,xs,h4,h5,h3 a (by simp) _ h6,Reps.mono h1 h2 h7,rfl⟩
 |O =>
  obtain⟨v,h4,h5⟩:=h
  exact⟨v,h4,Jg.mono (fun a ha o q=>h3 a ha o q) h2 h5⟩
section
variable {K:W.Frag}{B:Addr->Prop}{H0 H H':Hp}{σ:St}{Γ:List Md}{ρ:List PV}{F:Nat->List Addr}{R R':List Addr}
theorem Ag.grow(A:Ag K B H0 H σ Γ ρ F R)(e:Z6 H H'):Ag K B H0 H' σ Γ ρ F R:=
 ⟨A.same.trans e,A.own,A.young,A.youngR,fun i a ha=>let ⟨vs,q⟩:=A.live i a ha;⟨vs,e _ _ q⟩,fun a ha=>let ⟨vs,q⟩:=A.liveR a ha;⟨vs,e _ _ q⟩,A.disj,A.disjR,A.lenS,A.lenR,
  fun i=>(A.slot i).mono (fun a vs s r=>⟨r.same e,s⟩) (fun a vs r=>e.im r) fun a ha vs q=>e _ _ q⟩
theorem Ag.less(A:Ag K B H0 H σ Γ ρ F R)(h:∀a∈R',a∈R):Ag K B H0 H σ Γ ρ F R':=
 ⟨A.same,A.own,A.young,fun a ha=>A.youngR a (h a ha),A.live,fun a ha=>A.liveR a (h a ha),A.disj,fun i a ha z=>A.disjR i a ha (h a z),A.lenS,A.lenR,
  fun i=>(A.slot i).mono (fun a vs s r=>⟨r,s.1,fun z=>s.2.1 (h a z),s.2.2⟩) (fun a vs r=>r) fun a ha vs q=>q⟩
theorem Ag.more{G:List Addr}(A:Ag K B H0 H σ Γ ρ F R)(e:Z6 H H')(hf:∀a∈G,H a=none)(hl:∀a∈G,∃vs:LvO,H' a=some vs.1):Ag K B H0 H' σ Γ ρ F (G++R):=by
 refine⟨A.same.trans e,A.own,A.young,fun a ha=>?_,fun i a ha=>let ⟨vs,q⟩:=A.live i a ha;⟨vs,e _ _ q⟩,fun a ha=>?_,A.disj,fun i a ha z=>?_,A.lenS,A.lenR,fun i=>?_⟩
 ·rcases ZsO.mp ha with z|z
  ·exact A.same.free (hf a z)
  ·exact A.youngR a z
 ·rcases ZsO.mp ha with z|z
  ·exact hl a z
  ·obtain⟨vs,q⟩:=A.liveR a z
   exact⟨vs,e _ _ q⟩
 ·rcases ZsO.mp z with z|z
  ·obtain⟨vs,q⟩:=A.live i a ha
   rw[hf a z] at q;cases q
  ·exact A.disjR i a ha z
 ·refine(A.slot i).mono (fun a vs s r=>⟨r.same e,s.1,fun z=>?_,s.2.2⟩) (fun a vs r=>e.im r) fun a ha vs q=>e _ _ q
  rcases ZsO.mp z with z|z
  ·have:=hf a z
   rcases r with r|⟨o,r⟩<;>(rw[this] at r;cases r)
  ·exact s.2.1 z
theorem Ag.fresh(A:Ag K B H0 H σ Γ ρ F R){p:Addr}(hp:H p=none):p ∉ R/\(∀i,p ∉ F i)/\H0 p=none/\B p:=by
 refine⟨fun z=>?_,fun i z=>?_,A.same.free hp,A.own p (A.same.free hp)⟩
 ·obtain⟨vs,q⟩:=A.liveR p z
  rw[hp] at q;cases q
 ·obtain⟨vs,q⟩:=A.live i p z
  rw[hp] at q;cases q
theorem Ag.new{p:Addr}{xs:List V}(A:Ag K B H0 H σ Γ ρ F R)(hp:H p=none):Ag K B H0 (upd H p (.lst xs)) σ Γ ρ F (p::R):=
 A.more (G:=[p]) (Z6.new hp) (fun a ha=>by rw[Ztf.mp ha];exact hp) fun a ha=>⟨⟨.lst xs,trivial⟩,by rw[Ztf.mp ha,Z4]⟩
theorem Ag.newB{p:Addr}{u:HO}(hu:Lvo u)(A:Ag K B H0 H σ Γ ρ F R)(hp:H p=none):Ag K B H0 (upd H p u) σ Γ ρ F (p::R):=
 A.more (G:=[p]) (Z6.new hp) (fun a ha=>by rw[Ztf.mp ha];exact hp) fun a ha=>⟨⟨u,hu⟩,by rw[Ztf.mp ha,Z4]⟩
theorem Ag.getO{i:Nat}(A:Ag K B H0 H σ Γ ρ F R)(h:Γ[i]?=some .O):∃v,σ[i]?=some (some v)/\Jg K H (ρ.getD i .non) v (F i):=by
 have:=A.slot i
 rw[ZsG,h] at this
 exact this
theorem Ag.getT{i:Nat}(A:Ag K B H0 H σ Γ ρ F R)(h:Γ[i]?=some .T):∃a vs xs,σ[i]?=some (some (.ref a))/\ρ.getD i .non=.lst xs/\H a=some (.lst vs)/\Reps K H (NO B F R) xs vs/\F i=[a]:=by
 have:=A.slot i
 rw[ZsG (l:=Γ),h] at this
 exact this
theorem Ag.getS{i:Nat}(A:Ag K B H0 H σ Γ ρ F R)(h:Γ[i]?=some .S):∃v,σ[i]?=some (some v)/\Rep K H (NO B F R) (ρ.getD i .non) v:=by
 have:=A.slot i
 rw[ZsG (l:=Γ),h] at this
 exact this.2
theorem Ag.getP{i:Nat}(A:Ag K B H0 H σ Γ ρ F R)(h:Γ[i]?=some .P):∃v,σ[i]?=some (some v)/\(ρ.getD i .non).flat=true/\Rep K H (fun _=>True) (ρ.getD i .non) v:=by
 have:=A.slot i
 rw[ZsG (l:=Γ),h] at this
 exact this.2
theorem Ag.getA{i:Nat}{m:Md}(A:Ag K B H0 H σ Γ ρ F R)(h:Γ[i]?=some m)(hm:m≠.U):∃v,σ[i]?=some (some v)/\Rep K H (fun _=>True) (ρ.getD i .non) v:=by
 cases m with
 |U=>exact absurd rfl hm
 |P=>obtain⟨v,h1,h2,h3⟩:=A.getP h;exact⟨v,h1,h3⟩
 |S=>obtain⟨v,h1,h2⟩:=A.getS h;exact⟨v,h1,h2.any⟩
 |T =>
  obtain⟨a,vs,xs,h1,h2,h3,h4,h5⟩:=A.getT h
  exact⟨_,h1,by rw[h2];exact⟨a,vs,rfl,.inl ⟨.inl h3,trivial⟩,h4.any⟩⟩
 |O=>obtain⟨v,h1,h2⟩:=A.getO h;exact⟨v,h1,h2.rep (fun _ _=>trivial)⟩
theorem Ag.lt{i:Nat}{m:Md}(A:Ag K B H0 H σ Γ ρ F R)(h:Γ[i]?=some m):i<Γ.length:=(ZsJ.mp h).1
noncomputable def Ul(F:Nat->List Addr)(i:Nat)(G:List Addr):Nat->List Addr:=fun j=>if j=i then G else F j
theorem Zv{i:Nat}{G:List Addr}:Ul F i G i=G:=if_pos rfl
theorem Z9{i j:Nat}{G:List Addr}(h:j≠i):Ul F i G j=F j:=if_neg h
theorem Ag.put{i:Nat}{m:Md}{x:PV}{v:V}{G:List Addr}(A:Ag K B H0 H σ Γ ρ F (G++R))(hi:i<Γ.length)(hG:∀a∈G,a ∉ R)(hs:UI K H (NO B (Ul F i G) R) m x (some (some v)) G) :
  Ag K B H0 H (σ.set i (some v)) (Γ.set i m) (ρ.set i x) (Ul F i G) R:=by
 refine⟨A.same,A.own,fun j a ha=>?_,fun a ha=>A.youngR a (ZsL _ ha),fun j a ha=>?_,fun a ha=>A.liveR a (ZsL _ ha),fun j k hjk a ha z=>?_,fun j a ha z=>?_,by simp[A.lenS],by simp[A.lenR],fun j=>?_⟩
 ·by_cases h:j=i
  ·subst h;rw[Zv] at ha;exact A.youngR a (ZsQ _ ha)
  ·rw[Z9 h] at ha;exact A.young j a ha
 ·by_cases h:j=i
  ·subst h;rw[Zv] at ha;exact A.liveR a (ZsQ _ ha)
  ·rw[Z9 h] at ha;exact A.live j a ha
 ·by_cases h:j=i
  ·subst h
   rw[Zv] at ha
   rw[Z9 (Ne.symm hjk)] at z
   exact A.disjR k a z (ZsQ _ ha)
  ·rw[Z9 h] at ha
   by_cases h':k=i
   ·subst h'
    rw[Zv] at z
    exact A.disjR j a ha (ZsQ _ z)
   ·rw[Z9 h'] at z
    exact A.disj j k hjk a ha z
 ·by_cases h:j=i
  ·subst h;rw[Zv] at ha;exact hG a ha z
  ·rw[Z9 h] at ha;exact A.disjR j a ha (ZsL _ z)
 ·by_cases h:j=i
  ·subst h
   rw[Zv,ZsG,ZsG,Ztr hi,Ztr (by rw[A.lenR];exact hi),Ztr (by rw[A.lenS];exact hi)]
   exact hs
  ·rw[Z9 h,ZsG,ZsG,Ztz (Ne.symm h),Ztz (Ne.symm h),Ztz (Ne.symm h),<- ZsG,<- ZsG]
   refine(A.slot j).mono (fun a vs s r=>⟨r,s.1,fun z=>s.2.1 (ZsL _ z),fun k z=>?_⟩) (fun a vs r=>r) fun a ha vs q=>q
   by_cases h':k=i
   ·subst h';rw[Zv] at z;exact s.2.1 (ZsQ _ z)
   ·rw[Z9 h'] at z;exact s.2.2 k z
theorem Ag.turn{i:Nat}{m m':Md}{G:List Addr}(A:Ag K B H0 H σ Γ ρ F R)(h:Γ[i]?=some m)(hG:∀a∈G,a∈F i)(hs:UI K H (NO B (Ul F i []) (G++R)) m' (ρ.getD i .non) σ[i]? []) :
  Ag K B H0 H σ (Γ.set i m') ρ (Ul F i []) (G++R):=by
 have hi:=A.lt h
 refine⟨A.same,A.own,fun j a ha=>?_,fun a ha=>?_,fun j a ha=>?_,fun a ha=>?_,fun j k hjk a ha z=>?_,fun j a ha z=>?_,by simp[A.lenS],by simp[A.lenR],fun j=>?_⟩
 ·by_cases h:j=i
  ·subst h;rw[Zv] at ha;simp at ha
  ·rw[Z9 h] at ha;exact A.young j a ha
 ·rcases ZsO.mp ha with z|z
  ·exact A.young i a (hG a z)
  ·exact A.youngR a z
 ·by_cases h:j=i
  ·subst h;rw[Zv] at ha;simp at ha
  ·rw[Z9 h] at ha;exact A.live j a ha
 ·rcases ZsO.mp ha with z|z
  ·exact A.live i a (hG a z)
  ·exact A.liveR a z
 ·by_cases h:j=i
  ·subst h;rw[Zv] at ha;simp at ha
  ·by_cases h':k=i
   ·subst h';rw[Zv] at z;simp at z
   ·rw[Z9 h] at ha;rw[Z9 h'] at z;exact A.disj j k hjk a ha z
 ·by_cases h:j=i
  ·subst h;rw[Zv] at ha;simp at ha
  ·rw[Z9 h] at ha
   rcases ZsO.mp z with z|z
   ·exact A.disj j i h a ha (hG a z)
   ·exact A.disjR j a ha z
 ·by_cases h:j=i
  ·subst h
   rw[Zv,ZsG (l:=Γ.set _ _),Ztr hi]
   exact hs
  ·rw[Z9 h,ZsG (l:=Γ.set _ _),Ztz (Ne.symm h),<- ZsG]
   refine(A.slot j).mono (fun a vs s r=>⟨r,s.1,fun z=>?_,fun k z=>?_⟩) (fun a vs r=>r) fun a ha vs q=>q
   ·rcases ZsO.mp z with z|z
    ·exact s.2.2 i (hG a z)
    ·exact s.2.1 z
   ·by_cases h':k=i
    ·subst h';rw[Zv] at z;simp at z
    ·rw[Z9 h'] at z;exact s.2.2 k z
theorem Ag.move{i:Nat}(A:Ag K B H0 H σ Γ ρ F R)(h:Γ[i]?=some .O):Ag K B H0 H σ (Γ.set i .U) ρ (Ul F i []) (F i++R):=A.turn (G:=F i) h (fun a ha=>ha) rfl
end
noncomputable abbrev PX:=Str×PV
inductive Rr(α:Type) where
 |ok (a:α)|exc (e:PX)|bad
noncomputable def Rr.bind{α β:Type}:Rr α->(α->Rr β)->Rr β
 |.ok a,f=>f a
 |.exc e,_=>.exc e
 |.bad,_=>.bad
def Dn{α:Type}(r:Rr α)(ok:α->Prop)(ex:PX->Prop):Prop:=match r with
 |.ok a=>ok a
 |.exc e=>ex e
 |.bad=>False
theorem Dn.bind{α β:Type}{r:Rr α}{f:α->Rr β}{ok:β->Prop}{ex:PX->Prop}(h:Dn (r.bind f) ok ex):Dn r (fun a=>Dn (f a) ok ex) ex:=by
 cases r with
 |ok a=>exact h
 |exc e=>exact h
 |bad=>exact h
theorem Dn.imp{α:Type}{r:Rr α}{ok ok':α->Prop}{ex ex':PX->Prop}(h:Dn r ok ex)(h1:∀a,r=.ok a->ok a->ok' a)(h2:∀e,ex e->ex' e):Dn r ok' ex':=by
 cases r with
 |ok a=>exact h1 a rfl h
 |exc e=>exact h2 e h
 |bad=>exact h
@[simp] theorem Rr.bind_ok{α β:Type}{a:α}{f:α->Rr β}:(Rr.ok a).bind f=f a:=rfl
@[simp] theorem Rr.bind_exc{α β:Type}{e:PX}{f:α->Rr β}:(Rr.exc e:Rr α).bind f=.exc e:=rfl
@[simp] theorem Rr.bind_bad{α β:Type}{f:α->Rr β}:(Rr.bad:Rr α).bind f=.bad:=rfl
inductive Kd|P|F|T|Z|A|N|M
def Res(K:W.Frag)(B:Addr->Prop)(H0 H:Hp)(σ:St)(Γ':List Md)(ρ:List PV)(F:Nat->List Addr)(R:List Addr)(k:Kd)(x:PV)(v:V)(H':Hp):Prop:=
 ∃F',(∀i,∀a∈F' i,a∈F i)/\match k with
 |.P=>x.flat=true/\Rep K H' (fun _=>True) x v/\Ag K B H0 H' σ Γ' ρ F' R
 |.F=>∃G,Jg K H' x v G/\(∀a∈G,a ∉ R/\(H a=none\/∃i,a∈F i))/\Ag K B H0 H' σ Γ' ρ F' (G++R)
 |.T=>∃a vs xs,x=.lst xs/\v=.ref a/\H' a=some (.lst vs)/\Reps K H' (NO B F' (a::R)) xs vs/\a ∉ R/\(H a=none\/∃i,a∈F i)/\Ag K B H0 H' σ Γ' ρ F' (a::R)
 |.Z=>Rep K H' (NO B F' R) x v/\Ag K B H0 H' σ Γ' ρ F' R
 |.A=>Rep K H' (fun _=>True) x v/\Ag K B H0 H' σ Γ' ρ F' R
 |.N=>False
 |.M=>False
def DE(K:W.Frag)(EX:PX->Hp->Prop)(Γ Γ':List Md)(k:Kd)(te:TE)(f:List PV->Rr PV):Prop:=
 ∀(B:Addr->Prop) (H0 H:Hp) (σ:St) (ρ:List PV) (F:Nat->List Addr) (R:List Addr) (Q:VK),Ag K B H0 H σ Γ ρ F R ->
  Dn (f ρ) (fun x=>∀v H',Z6 H H'->Res K B H0 H σ Γ' ρ F R k x v H'->Q v H') (fun e=>∀H',Z6 H0 H'->EX e H')->te σ H Q
def DT(K:W.Frag)(EX:PX->Hp->Prop)(Γ Γ':List Md)(tt:TT)(f:List PV->Rr Bool):Prop:=
 ∀(B:Addr->Prop) (H0 H:Hp) (σ:St) (ρ:List PV) (F:Nat->List Addr) (R:List Addr) (Q:Bool->Hp->Prop),Ag K B H0 H σ Γ ρ F R ->
  Dn (f ρ) (fun b=>∀H' F',Z6 H H'->(∀i,∀a∈F' i,a∈F i)->Ag K B H0 H' σ Γ' ρ F' R->Q b H') (fun e=>∀H',Z6 H0 H'->EX e H')->tt σ H Q
section
variable {K:W.Frag}{B:Addr->Prop}{EX:PX->Hp->Prop}{H0 H H':Hp}{σ:St}{Γ Γ' Γ1 Γ2:List Md}{ρ:List PV}{F F':Nat->List Addr}{R:List Addr}{k:Kd}{x:PV}{v:V}{te ta tb:TE}{f fa fb:List PV->Rr PV}
theorem Res.ag(h:Res K B H0 H σ Γ' ρ F R k x v H'):∃F',(∀i,∀a∈F' i,a∈F i)/\Rep K H' (fun _=>True) x v/\Ag K B H0 H' σ Γ' ρ F' R:=by
 obtain⟨F',hF,h⟩:=h
 refine⟨F',hF, ?_⟩
 cases k with
 |P=>exact⟨h.2.1,h.2.2⟩
 |F=>obtain⟨G,h1,h2,h3⟩:=h;exact⟨h1.rep fun _ _=>trivial,h3.less fun a ha=>ZsL _ ha⟩
 |T=>obtain⟨a,vs,xs,rfl,rfl,h1,h2,h3,h4,h5⟩:=h;exact⟨⟨a,vs,rfl,.inl ⟨.inl h1,trivial⟩,h2.any⟩,h5.less fun a ha=>Ztk _ ha⟩
 |Z=>exact⟨h.1.any,h.2⟩
 |A=>exact h
 |N=>exact h.elim
 |M=>exact h.elim
theorem Res.toA(h:Res K B H0 H σ Γ' ρ F R k x v H'):Res K B H0 H σ Γ' ρ F R .A x v H':=let ⟨F',a,b,c⟩:=h.ag;⟨F',a,b,c⟩
theorem Res.PF(h:Res K B H0 H σ Γ' ρ F R .P x v H'):Res K B H0 H σ Γ' ρ F R .F x v H':=by
 obtain⟨F',hF,h1,h2,h3⟩:=h
 exact⟨F',hF,[],h2.tree h1,by simp,h3⟩
theorem Res.PZ(h:Res K B H0 H σ Γ' ρ F R .P x v H'):Res K B H0 H σ Γ' ρ F R .Z x v H':=by
 obtain⟨F',hF,h1,h2,h3⟩:=h
 exact⟨F',hF,h2.flatS h1,h3⟩
theorem Res.FZ(h:Res K B H0 H σ Γ' ρ F R .F x v H'):Res K B H0 H σ Γ' ρ F R .Z x v H':=by
 obtain⟨F',hF,G,h1,h2,h3⟩:=h
 exact⟨F',hF,h1.rep fun a ha=>⟨h3.own a (h3.youngR a (ZsQ _ ha)),(h2 a ha).1,fun i z=>h3.disjR i a z (ZsQ _ ha)⟩,h3.less fun a ha=>ZsL _ ha⟩
theorem DE.imp{k':Kd}(h:DE K EX Γ Γ' k te f)(hr:∀{B:Addr->Prop}{H0 H H':Hp}{σ:St}{ρ:List PV}{F:Nat->List Addr}{R:List Addr}{x:PV}{v:V},Res K B H0 H σ Γ' ρ F R k x v H'->Res K B H0 H σ Γ' ρ F R k' x v H'):DE K EX Γ Γ' k' te f:=
 fun B H0 H σ ρ F R Q A d=>h B H0 H σ ρ F R Q A (d.imp (fun x _ q v H' s r=>q v H' s (hr r)) fun e q=>q)
theorem DE.toA(h:DE K EX Γ Γ' k te f):DE K EX Γ Γ' .A te f:=h.imp Res.toA
theorem DE.PF(h:DE K EX Γ Γ' .P te f):DE K EX Γ Γ' .F te f:=h.imp Res.PF
theorem DE.PZ(h:DE K EX Γ Γ' .P te f):DE K EX Γ Γ' .Z te f:=h.imp Res.PZ
theorem DE.FZ(h:DE K EX Γ Γ' .F te f):DE K EX Γ Γ' .Z te f:=h.imp Res.FZ
noncomputable def grd(x:PV):Rr PV:=if x.flat=true then .ok x else .bad
theorem DE.grd(h:DE K EX Γ Γ' .A te f):DE K EX Γ Γ' .P te (fun ρ=>(f ρ).bind grd):=fun B H0 H σ ρ F R Q A d=>by
 refine h B H0 H σ ρ F R Q A (d.bind.imp (fun x _ q v H' s r=>?_) fun e q=>q)
 unfold L2.grd at q
 by_cases hx:x.flat=true
 ·rw[if_pos hx] at q
  obtain⟨F',h1,h2,h3⟩:=r
  exact q v H' s ⟨F',h1,hx,h2,h3⟩
 ·rw[if_neg hx] at q;exact q.elim
theorem Zm4{v:V}(hf:x.flat=true)(hr:∀H,Rep K H (fun _=>True) x v):DE K EX Γ Γ .P (tC v) (fun _=>.ok x):=fun B H0 H σ ρ F R Q A d =>
 d v H (Z6.refl H) ⟨F,fun _ _ h=>h,hf,hr H,A⟩
theorem Zi{i:Int}:DE K EX Γ Γ .P (tC (.int i)) (fun _=>.ok (.int i)):=Zm4 rfl fun _=>rfl
theorem Zah{b:Bool}:DE K EX Γ Γ .P (tC (.bl b)) (fun _=>.ok (.bl b)):=Zm4 rfl fun _=>rfl
theorem UY:DE K EX Γ Γ .P (tC .non) (fun _=>.ok .non):=Zm4 rfl fun _=>rfl
theorem Zgo{x:Str}:DE K EX Γ Γ .P (tC (.str x)) (fun _=>.ok (.str x)):=Zm4 rfl fun _=>rfl
noncomputable def gv(i:Nat)(ρ:List PV):PV:=ρ.getD i .non
theorem Zs{i:Nat}{m:Md}(h:Γ[i]?=some m)(hm:m≠.U):DE K EX Γ Γ .A (Za9 i) (fun ρ=>.ok (gv i ρ)):=fun B H0 H σ ρ F R Q A d=>by
 obtain⟨v,h1,h2⟩:=A.getA h hm
 exact⟨v,h1,d v H (Z6.refl H) ⟨F,fun _ _ h=>h,h2,A⟩⟩
theorem Zj{i:Nat}(h:Γ[i]?=some .P):DE K EX Γ Γ .P (Za9 i) (fun ρ=>.ok (gv i ρ)):=fun B H0 H σ ρ F R Q A d=>by
 obtain⟨v,h1,h2,h3⟩:=A.getP h
 exact⟨v,h1,d v H (Z6.refl H) ⟨F,fun _ _ h=>h,h2,h3,A⟩⟩
theorem Ve{i:Nat}(h:Γ[i]?=some .S):DE K EX Γ Γ .Z (Za9 i) (fun ρ=>.ok (gv i ρ)):=fun B H0 H σ ρ F R Q A d=>by
 obtain⟨v,h1,h2⟩:=A.getS h
 exact⟨v,h1,d v H (Z6.refl H) ⟨F,fun _ _ h=>h,h2,A⟩⟩
theorem VO{i:Nat}{F:Nat->List Addr}:∀j,∀a∈Ul F i [] j,a∈F j:=fun j a ha=>by
 by_cases h:j=i
 ·subst h;rw[Zv] at ha;simp at ha
 ·rw[Z9 h] at ha;exact ha
theorem Jt{i:Nat}(h:Γ[i]?=some .O):DE K EX Γ (Γ.set i .U) .F (Za9 i) (fun ρ=>.ok (gv i ρ)):=fun B H0 H σ ρ F R Q A d=>by
 obtain⟨v,h1,h2⟩:=A.getO h
 exact⟨v,h1,d v H (Z6.refl H) ⟨Ul F i [],VO,F i,h2,fun a ha=>⟨A.disjR i a ha,.inr ⟨i,ha⟩⟩,A.move h⟩⟩
def OpP(K:W.Frag)(r:R2)(o:PV->PV->Rr PV):Prop:=∀{H:Hp}{x y:PV}{v w:V}{Q:VK},Rep K H (fun _=>True) x v->Rep K H (fun _=>True) y w ->
 (∃z,o x y=.ok z/\(z.flat=true->∀u,Rep K H (fun _=>True) z u->Q u H))->r v w H Q
theorem Dn.bind2{α β γ:Type}{r:Rr α}{q:Rr β}{f:α->β->Rr γ}{ok:γ->Prop}{ex:PX->Prop}(h:Dn (r.bind fun a=>q.bind fun b=>f a b) ok ex):Dn r (fun a=>Dn q (fun b=>Dn (f a b) ok ex) ex) ex:=
 h.bind.imp (fun a _ h=>h.bind) fun e h=>h
theorem two{Q:V->V->Hp->Prop}{ok:PV->PV->Prop}(ha:DE K EX Γ Γ1 .A ta fa)(hb:DE K EX Γ1 Γ2 .A tb fb)(A:Ag K B H0 H σ Γ ρ F R)(d:Dn (fa ρ) (fun x=>Dn (fb ρ) (fun y=>ok x y) (fun e=>∀H',Z6 H0 H'->EX e H')) (fun e=>∀H',Z6 H0 H'->EX e H'))(hq:∀x y v w H' F',ok x y->Z6 H H'->(∀i,∀a∈F' i,a∈F i)->Rep K H' (fun _=>True) x v->Rep K H' (fun _=>True) y w->Ag K B H0 H' σ Γ2 ρ F' R->Q v w H') :
  ta σ H fun v H1=>tb σ H1 fun w H2=>Q v w H2:=by
 refine ha B H0 H σ ρ F R _ A (d.imp (fun x _ d v H1 s1 r1=>?_) fun e q=>q)
 obtain⟨F1,f1,p1,A1⟩:=r1
 refine hb B H0 H1 σ ρ F1 R _ A1 (d.imp (fun y _ q w H2 s2 r2=>?_) fun e q=>q)
 obtain⟨F2,f2,p2,A2⟩:=r2
 exact hq x y v w H2 F2 q (s1.trans s2) (fun i a h=>f1 i a (f2 i a h)) (p1.same s2) p2 A2
theorem Zgp{r:R2}{o:PV->PV->Rr PV}(hr:OpP K r o)(ho:∀x y z,o x y=.ok z->z.flat=true)(hx:∀x y e,o x y≠.exc e)(ha:DE K EX Γ Γ1 .A ta fa)(hb:DE K EX Γ1 Γ2 .A tb fb) :
  DE K EX Γ Γ2 .P (tOp r ta tb) (fun ρ=>(fa ρ).bind fun x=>(fb ρ).bind fun y=>o x y):=fun B H0 H σ ρ F R Q A d=>by
 refine two ha hb A d.bind2 fun x y v w H' F' d s hF p1 p2 A'=>?_
 cases e:o x y with
 |ok z=>rw[e] at d;exact hr p1 p2 ⟨z,e,fun hf u hu=>d u H' s ⟨F',hF,hf,hu,A'⟩⟩
 |exc q=>exact absurd e (hx x y q)
 |bad=>rw[e] at d;exact d.elim
noncomputable def oI(C:Int->Int->Bool)(g:Int->Int->PV)(x y:PV):Rr PV:=match x,y with
 |.int i,.int j=>if C i j=true then .ok (g i j) else .bad
 |_,_=>.bad
theorem ZbM{C:Int->Int->Bool}{g:Int->Int->PV}{i j:Int}(h:C i j=true):oI C g (.int i) (.int j)=.ok (g i j):=if_pos h
theorem ZnJ{C:Int->Int->Bool}{D:Int->Int->Prop}{g:Int->Int->PV}{g':Int->Int->V}(hC:∀i j,C i j=true->D i j)(hg:∀H i j,Rep K H (fun _=>True) (g i j) (g' i j))(hf:∀i j,(g i j).flat=true):OpP K (rI D g') (oI C g):=by
 intro H x y v w Q rx ry ⟨z,e,q⟩
 cases x<;>cases y<;>first|(simp only[oI] at e;cases e;done)|skip
 rename_i i j
 simp only[oI] at e
 by_cases h:C i j=true
 ·rw[if_pos h] at e;cases e
  cases rx;cases ry
  exact⟨i,j,rfl,rfl,hC i j h,q (hf i j) _ (hg H i j)⟩
 ·rw[if_neg h] at e;cases e
theorem ZmW{g:Int->Int->PV}{g':Int->Int->V}(hg:∀H i j,Rep K H (fun _=>True) (g i j) (g' i j))(hf:∀i j,(g i j).flat=true):OpP K (rI0 g') (oI (fun _ _=>true) g):=by
 intro H x y v w Q rx ry ⟨z,e,q⟩
 cases x<;>cases y<;>first|(simp only[oI] at e;cases e;done)|skip
 rename_i i j
 simp only[oI,if_true] at e
 cases e;cases rx;cases ry
 exact⟨i,j,rfl,rfl,q (hf i j) _ (hg H i j)⟩
theorem ZdJ{C:Int->Int->Bool}{g:Int->Int->PV}(x y:PV)(e:PX):oI C g x y≠.exc e:=by
 cases x<;>cases y<;>first|(intro h;simp only[oI] at h;cases h;done)|skip
 intro h
 simp only[oI] at h
 split at h<;>cases h
theorem ZfA{C:Int->Int->Bool}{g:Int->Int->PV}(hf:∀i j,(g i j).flat=true)(x y z:PV)(h:oI C g x y=.ok z):z.flat=true:=by
 cases x<;>cases y<;>first|(simp only[oI] at h;cases h;done)|skip
 simp only[oI] at h
 split at h
 ·cases h;exact hf _ _
 ·cases h
end
mutual
noncomputable def PV.noX:PV->Bool
 |.exc _=>false
 |.exa _ _=>false
 |.box _ _ _=>false
 |.fz xs=>PV.noXs xs
 |.lst xs=>PV.noXs xs
 |.tup xs=>PV.noXs xs
 |.non=>true
 |.bl _=>true
 |.int _=>true
 |.str _=>true
noncomputable def PV.noXs:List PV->Bool
 |[]=>true
 |x::xs=>x.noX&&PV.noXs xs
end
theorem PV.noXs_ints:∀(ns:List Int),PV.noXs (ns.map PV.int)=true
 |[]=>rfl
 |n::ns=>by simp[PV.noXs,PV.noX,PV.noXs_ints ns]
mutual
noncomputable def PV.dat:PV->PyData
 |.non=>.none
 |.bl b=>.bool b
 |.int i=>.int i
 |.str x=>.str x
 |.exc _=>.none
 |.exa _ _=>.none
 |.box _ _ _=>.none
 |.fz xs=>.list (PV.dats xs)
 |.lst xs=>.list (PV.dats xs)
 |.tup xs=>.tuple (PV.dats xs)
noncomputable def PV.dats:List PV->List PyData
 |[]=>[]
 |x::xs=>x.dat::PV.dats xs
end
section
variable {X:Cx}{pins:List (Addr×Obj)}{σ:St}{H:Hp}{s:Shared}{S:Addr->Prop}
theorem JC{K:W.Frag}{a:Addr}{vs:List V}(h:(Rd H a (.lst vs)/\S a)\/KL K a vs):SqL K H a vs:=by
 rcases h with h|h
 ·exact .inl h.1
 ·exact .inr h
mutual
theorem Rep.reads(I:Inv X pins σ H s):∀{x:PV}{v:V}{u:Value},x.noX=true->Rep X.K H S x v->Jo v u->∃as,Reads s.heap u x.dat as
 |.non,_,_,_,h,r=>by cases h;cases r;exact⟨_,.none⟩
 |.bl _,_,_,_,h,r=>by cases h;cases r;exact⟨_,.bool _⟩
 |.int _,_,_,_,h,r=>by cases h;obtain⟨t,rfl⟩:=r;exact⟨_,.int _ _⟩
 |.str _,_,_,_,h,r=>by cases h;obtain⟨t,rfl⟩:=r;exact⟨_,.str _ _⟩
 |.exc _,_,_,z,_,_=>by simp[PV.noX] at z
 |.exa _ _,_,_,z,_,_=>by simp[PV.noX] at z
 |.box _ _ _,_,_,z,_,_=>by simp[PV.noX] at z
 |.fz xs,_,_,z,h,r=>by
  obtain⟨a,vs,rfl,⟨o,hn⟩,hr⟩:=h
  cases r
  obtain⟨its,rv,pl,_⟩:=I.list (JC (S:=fun _=>True) (.inl ⟨.inr ⟨o,hn.1⟩,trivial⟩))
  obtain⟨as,ra⟩:=Reps.reads I (by simpa[PV.noX] using z) hr rv
  obtain⟨o,ho,hc,n,hd⟩:=pl.isList
  exact⟨_,.list ho hc hd (by simpa using ra)⟩
 |.lst xs,_,_,z,h,r=>by
  obtain⟨a,vs,rfl,hn,hr⟩:=h
  cases r
  obtain⟨its,rv,pl,_⟩:=I.list (JC hn)
  obtain⟨as,ra⟩:=Reps.reads I (by simpa[PV.noX] using z) hr rv
  obtain⟨o,ho,hc,n,hd⟩:=pl.isList
  exact⟨_,.list ho hc hd (by simpa using ra)⟩
 |.tup xs,_,_,z,h,r=>by
  obtain⟨a,vs,rfl,hn,hr⟩:=h
  cases r
  obtain⟨its,rv,⟨o,ho,hc,n,hd⟩,_⟩:=I.tuple hn.sqT
  obtain⟨as,ra⟩:=Reps.reads I (by simpa[PV.noX] using z) hr rv
  exact⟨_,.tuple ho hc hd (by simpa using ra)⟩
theorem Reps.reads(I:Inv X pins σ H s):∀{xs:List PV}{vs:List V}{us:List Value},PV.noXs xs=true->Reps X.K H S xs vs->ZY vs us->∃as,ReadsAll s.heap us (PV.dats xs) as
 |[],_,_,_,h,r=>by rw[h] at r;cases r;exact⟨_,.nil⟩
 |x::xs,_,_,z,h,r=>by
  simp only[PV.noXs,Bool.and_eq_true] at z
  obtain⟨v,vs,rfl,h1,h2⟩:=h
  cases r with
  |cons r1 r2 =>
   obtain⟨as,a1⟩:=Rep.reads I z.1 h1 r1
   obtain⟨bs,b1⟩:=Reps.reads I z.2 h2 r2
   exact⟨_,.cons a1 b1⟩
end
noncomputable def okD(x:PV):Bool:=x.noX&&x.dat.canLay0&&decide (x.dat.depth<=64)
noncomputable def ZmI(K:W.Frag)(g:Bool->Bool):R2:=fun x y H Q=>∃p q,Rep K H (fun _=>True) p x/\Rep K H (fun _=>True) q y/\okD p=true/\okD q=true/\Q (.bl (g (PyData.eqv p.dat q.dat))) H
theorem Vj{K:W.Frag}(hu:X.A.units+64<cLine)(e:X.K=K:=by rfl):OpR X (compareOp .Eq) (ZmI K id):=by
 subst e
 intro pins s σ H x y v u Q I rx ry h
 obtain⟨p,q,h1,h2,h3,h4,hq⟩:=h
 simp only[okD,Bool.and_eq_true,decide_eq_true_eq] at h3 h4
 obtain⟨as,ra⟩:=h1.reads I h3.1.1 rx
 obtain⟨bs,rb⟩:=h2.reads I h4.1.1 ry
 exact SeqAt.rcAt_reads ra rb h3.1.2 h4.1.2 (by have:=ZuL p.dat.depth q.dat.depth;omega) _ _ _ _ ⟨.bl (PyData.eqv p.dat q.dat),H,I,rfl,hq⟩
theorem U6{K:W.Frag}(hu:X.A.units+64<cLine)(e:X.K=K:=by rfl):OpR X (compareOp .NotEq) (ZmI K (!·)):=by
 subst e
 intro pins s σ H x y v u Q I rx ry h
 obtain⟨p,q,h1,h2,h3,h4,hq⟩:=h
 simp only[okD,Bool.and_eq_true,decide_eq_true_eq] at h3 h4
 obtain⟨as,ra⟩:=h1.reads I h3.1.1 rx
 obtain⟨bs,rb⟩:=h2.reads I h4.1.1 ry
 exact SeqAt.rcNeAt_reads ra rb h3.1.2 h4.1.2 (by have:=ZuL p.dat.depth q.dat.depth;omega) _ _ _ _ ⟨.bl (!PyData.eqv p.dat q.dat),H,I,rfl,hq⟩
end
noncomputable def Zac(g:Bool->Bool)(x y:PV):Rr PV:=if (okD x&&okD y)=true then .ok (.bl (g (PyData.eqv x.dat y.dat))) else .bad
def Zdi(i j:Int):Prop:=i.natAbs<2^60000/\j.natAbs<2^60000
def Zdj(i j:Int):Prop:=0<j/\j.natAbs<2^9000
noncomputable instance (i j:Int):Decidable (Zdi i j):=by unfold Zdi;infer_instance
noncomputable instance (i j:Int):Decidable (Zdj i j):=by unfold Zdj;infer_instance
noncomputable instance (i j:Int):Decidable (ZkF i j):=by unfold ZkF;infer_instance
theorem Zg9{i:Int}{n:Nat}(h:i.natAbs<2^n):Builtin.Int.intBits i<=n:=by
 unfold Builtin.Int.intBits
 split
 ·exact Zts _
 ·rename_i h0
  have:i.natAbs≠0:=by simpa using h0
  exact Nat.succ_le_of_lt ((Nat.log2_lt this).mpr h)
section
variable {X:Cx}
theorem Um:OpR X (binaryOp .Mult) (rI Zdi fun i j=>.int (i*j)):=opI fun _ _ _ _ _ _ _ hc q=>mul_int q (PyProof.Rows.mulOk_of_bits (Zg9 hc.1) (Zg9 hc.2) (by decide))
theorem J4:OpR X (binaryOp .FloorDiv) (rI Zdj fun i j=>.int (i/j)):=opI fun i j _ _ _ _ _ hc q=>by
 refine floordiv_int (by have:=hc.1;omega) ?_ (.inl (PyProof.noPylong_of_log2 ?_))
 ·rw[Int.fdiv_eq_ediv_of_nonneg _ (by have:=hc.1;omega)];exact q
 ·have h0:j.natAbs≠0:=by have:=hc.1;omega
  exact(Nat.log2_lt h0).mpr hc.2
variable {K:W.Frag}{B:Addr->Prop}{EX:PX->Hp->Prop}{H0 H:Hp}{σ:St}{Γ Γ' Γ1 Γ2:List Md}{ρ:List PV}{F:Nat->List Addr}{R:List Addr}{k:Kd}{x:PV}{v:V}{ta tb:TE}{fa fb fc:List PV->Rr PV}
noncomputable abbrev ZmR:PV->PV->Rr PV:=oI (fun _ _=>true) fun i j=>.int (i+j)
noncomputable abbrev Zn4:PV->PV->Rr PV:=oI (fun _ _=>true) fun i j=>.int (i-j)
noncomputable abbrev ZmM:PV->PV->Rr PV:=oI (fun i j=>decide (Zdi i j)) fun i j=>.int (i*j)
noncomputable abbrev ZmQ:PV->PV->Rr PV:=oI (fun i j=>decide (Zdj i j)) fun i j=>.int (i/j)
noncomputable abbrev Zn6:PV->PV->Rr PV:=oI (fun _ j=>decide (0<j)) fun i j=>.int (i%j)
noncomputable abbrev Zll:PV->PV->Rr PV:=oI (fun i j=>decide (ZkF i j)) fun i j=>.int (i^j.toNat)
noncomputable abbrev pLt:PV->PV->Rr PV:=oI (fun _ _=>true) fun i j=>.bl (decide (i<j))
noncomputable abbrev pLe:PV->PV->Rr PV:=oI (fun _ _=>true) fun i j=>.bl (decide (i<=j))
noncomputable abbrev pGt:PV->PV->Rr PV:=oI (fun _ _=>true) fun i j=>.bl (decide (j<i))
noncomputable abbrev pGe:PV->PV->Rr PV:=oI (fun _ _=>true) fun i j=>.bl (decide (j<=i))
theorem Zgq{D:Int->Int->Prop}{C:Int->Int->Bool}{g:Int->Int->PV}{g':Int->Int->V}(hC:∀i j,C i j=true->D i j)(hg:∀H i j,Rep K H (fun _=>True) (g i j) (g' i j))(hf:∀i j,(g i j).flat=true)(ha:DE K EX Γ Γ1 .A ta fa)(hb:DE K EX Γ1 Γ2 .A tb fb):DE K EX Γ Γ2 .P (tOp (rI D g') ta tb) (fun ρ=>(fa ρ).bind fun x=>(fb ρ).bind fun y=>oI C g x y):=
 Zgp (ZnJ hC hg hf) (ZfA hf) ZdJ ha hb
theorem Za1{g:Int->Int->PV}{g':Int->Int->V}(hg:∀H i j,Rep K H (fun _=>True) (g i j) (g' i j))(hf:∀i j,(g i j).flat=true)(ha:DE K EX Γ Γ1 .A ta fa)(hb:DE K EX Γ1 Γ2 .A tb fb):DE K EX Γ Γ2 .P (tOp (rI0 g') ta tb) (fun ρ=>(fa ρ).bind fun x=>(fb ρ).bind fun y=>oI (fun _ _=>true) g x y):=
 Zgp (ZmW hg hf) (ZfA hf) ZdJ ha hb
theorem Jy(ha:DE K EX Γ Γ1 .A ta fa)(hb:DE K EX Γ1 Γ2 .A tb fb):DE K EX Γ Γ2 .P (tOp (rI0 fun i j=>.int (i+j)) ta tb) (fun ρ=>(fa ρ).bind fun x=>(fb ρ).bind fun y=>ZmR x y):=Za1 (fun _ _ _=>rfl) (fun _ _=>rfl) ha hb
theorem Zeb(ha:DE K EX Γ Γ1 .A ta fa)(hb:DE K EX Γ1 Γ2 .A tb fb):DE K EX Γ Γ2 .P (tOp (rI0 fun i j=>.int (i-j)) ta tb) (fun ρ=>(fa ρ).bind fun x=>(fb ρ).bind fun y=>Zn4 x y):=Za1 (fun _ _ _=>rfl) (fun _ _=>rfl) ha hb
theorem ZeH(ha:DE K EX Γ Γ1 .A ta fa)(hb:DE K EX Γ1 Γ2 .A tb fb):DE K EX Γ Γ2 .P (tOp (rI0 fun i j=>.bl (decide (i<j))) ta tb) (fun ρ=>(fa ρ).bind fun x=>(fb ρ).bind fun y=>pLt x y):=Za1 (fun _ _ _=>rfl) (fun _ _=>rfl) ha hb
theorem Znf(ha:DE K EX Γ Γ1 .A ta fa)(hb:DE K EX Γ1 Γ2 .A tb fb):DE K EX Γ Γ2 .P (tOp (rI0 fun i j=>.bl (decide (i<=j))) ta tb) (fun ρ=>(fa ρ).bind fun x=>(fb ρ).bind fun y=>pLe x y):=Za1 (fun _ _ _=>rfl) (fun _ _=>rfl) ha hb
theorem ZeI(ha:DE K EX Γ Γ1 .A ta fa)(hb:DE K EX Γ1 Γ2 .A tb fb):DE K EX Γ Γ2 .P (tOp (rI0 fun i j=>.bl (decide (j<i))) ta tb) (fun ρ=>(fa ρ).bind fun x=>(fb ρ).bind fun y=>pGt x y):=Za1 (fun _ _ _=>rfl) (fun _ _=>rfl) ha hb
theorem Zng(ha:DE K EX Γ Γ1 .A ta fa)(hb:DE K EX Γ1 Γ2 .A tb fb):DE K EX Γ Γ2 .P (tOp (rI0 fun i j=>.bl (decide (j<=i))) ta tb) (fun ρ=>(fa ρ).bind fun x=>(fb ρ).bind fun y=>pGe x y):=Za1 (fun _ _ _=>rfl) (fun _ _=>rfl) ha hb
theorem QS(ha:DE K EX Γ Γ1 .A ta fa)(hb:DE K EX Γ1 Γ2 .A tb fb):DE K EX Γ Γ2 .P (tOp (rI Zdi fun i j=>.int (i*j)) ta tb) (fun ρ=>(fa ρ).bind fun x=>(fb ρ).bind fun y=>ZmM x y):=Zgq (fun _ _ h=>of_decide_eq_true h) (fun _ _ _=>rfl) (fun _ _=>rfl) ha hb
theorem Ud(ha:DE K EX Γ Γ1 .A ta fa)(hb:DE K EX Γ1 Γ2 .A tb fb):DE K EX Γ Γ2 .P (tOp (rI Zdj fun i j=>.int (i/j)) ta tb) (fun ρ=>(fa ρ).bind fun x=>(fb ρ).bind fun y=>ZmQ x y):=Zgq (fun _ _ h=>of_decide_eq_true h) (fun _ _ _=>rfl) (fun _ _=>rfl) ha hb
theorem Je(ha:DE K EX Γ Γ1 .A ta fa)(hb:DE K EX Γ1 Γ2 .A tb fb):DE K EX Γ Γ2 .P (tOp (rI (fun _ j=>0<j) fun i j=>.int (i%j)) ta tb) (fun ρ=>(fa ρ).bind fun x=>(fb ρ).bind fun y=>Zn6 x y):=Zgq (fun _ _ h=>of_decide_eq_true h) (fun _ _ _=>rfl) (fun _ _=>rfl) ha hb
theorem Zcd(ha:DE K EX Γ Γ1 .A ta fa)(hb:DE K EX Γ1 Γ2 .A tb fb):DE K EX Γ Γ2 .P (tOp (rI ZkF fun i j=>.int (i^j.toNat)) ta tb) (fun ρ=>(fa ρ).bind fun x=>(fb ρ).bind fun y=>Zll x y):=Zgq (fun _ _ h=>of_decide_eq_true h) (fun _ _ _=>rfl) (fun _ _=>rfl) ha hb
theorem Zey{g:Bool->Bool}(x y:PV)(e:PX):Zac g x y≠.exc e:=by
 unfold Zac
 intro h
 split at h<;>cases h
theorem Zf2{g:Bool->Bool}(x y z:PV)(h:Zac g x y=.ok z):z.flat=true:=by
 unfold Zac at h
 split at h
 ·cases h;rfl
 ·cases h
theorem Jm{g:Bool->Bool}(ha:DE K EX Γ Γ1 .A ta fa)(hb:DE K EX Γ1 Γ2 .A tb fb):DE K EX Γ Γ2 .P (tOp (ZmI K g) ta tb) (fun ρ=>(fa ρ).bind fun x=>(fb ρ).bind fun y=>Zac g x y):=by
 refine Zgp (fun {H x y v w Q} rx ry ⟨z,e,q⟩=>?_) Zf2 Zey ha hb
 unfold Zac at e
 by_cases h:(okD x&&okD y)=true
 ·rw[if_pos h] at e;cases e
  rw[Bool.and_eq_true] at h
  exact⟨x,y,rx,ry,h.1,h.2,q rfl _ rfl⟩
 ·rw[if_neg h] at e;cases e
noncomputable def ZmN(g:Bool->Bool)(x:PV):Rr PV:=match x with
 |.non=>.ok (.bl (g true))
 |_=>.ok (.bl (g false))
theorem Zjz{x:PV}{v:V}{S:Addr->Prop}(h:Rep K H S x v):decide (v=.non)=match x with|.non=>true|_=>false:=by
 cases x<;>first|(cases h;rfl)|(obtain⟨a,vs,rfl,_⟩:=h;rfl)|(obtain⟨a,vs,c,rfl,_⟩:=h;rfl)|(obtain⟨a,o,c,d,fs,rfl,_⟩:=h;rfl)
theorem ZiY(ha:DE K EX Γ Γ1 .A ta fa):DE K EX Γ Γ1 .P (tOp (fun x y H Q=>y=.non/\Q (.bl (decide (x=.non))) H) ta (tC .non)) (fun ρ=>(fa ρ).bind (ZmN id)):=fun B H0 H σ ρ F R Q A d=>by
 refine ha B H0 H σ ρ F R _ A (d.bind.imp (fun x _ d v H1 s1 r1=>?_) fun e q=>q)
 obtain⟨F1,f1,p1,A1⟩:=r1
 have e:=Zjz p1
 refine⟨rfl, ?_⟩
 rw[e]
 cases x<;>exact d _ H1 s1 ⟨F1,f1,rfl,rfl,A1⟩
noncomputable def asB(x:PV):Rr Bool:=match x with
 |.bl b=>.ok b
 |_=>.bad
theorem Dn.asB{x:PV}{ok:Bool->Prop}{ex:PX->Prop}(d:Dn (asB x) ok ex):∃b,x=.bl b/\ok b:=by
 cases x with
 |bl b=>exact⟨b,rfl,d⟩
 |_=>exact d.elim
theorem Zme(ha:DE K EX Γ Γ1 .A ta fa):DE K EX Γ Γ1 .P (ZkP ta) (fun ρ=>(fa ρ).bind fun x=>(asB x).bind fun b=>.ok (.bl (!b))):=fun B H0 H σ ρ F R Q A d=>by
 refine ha B H0 H σ ρ F R _ A (d.bind.imp (fun x _ d v H1 s1 r1=>?_) fun e q=>q)
 obtain⟨b,rfl,d⟩:=d.bind.asB
 obtain⟨F1,f1,p1,A1⟩:=r1
 cases p1
 exact⟨b,rfl,d _ H1 s1 ⟨F1,f1,rfl,rfl,A1⟩⟩
theorem Res.shift{H1:Hp}{F1:Nat->List Addr}{k:Kd}{Γ2:List Md}{y:PV}{w:V}{H2:Hp}(s1:Z6 H H1)(f1:∀i,∀a∈F1 i,a∈F i)(h:Res K B H0 H1 σ Γ2 ρ F1 R k y w H2):Res K B H0 H σ Γ2 ρ F R k y w H2:=by
 obtain⟨F2,f2,h⟩:=h
 refine⟨F2,fun i a ha=>f1 i a (f2 i a ha), ?_⟩
 have org:∀a,(H1 a=none\/∃i,a∈F1 i)->(H a=none\/∃i,a∈F i):=fun a h=>h.elim (fun z=>.inl (s1.free z)) fun⟨i,z⟩=>.inr ⟨i,f1 i a z⟩
 cases k with
 |P=>exact h
 |F=>obtain⟨G,h1,h2,h3⟩:=h;exact⟨G,h1,fun a ha=>⟨(h2 a ha).1,org a (h2 a ha).2⟩,h3⟩
 |T=>obtain⟨a,vs,xs,h1,h2,h3,h4,h5,h6,h7⟩:=h;exact⟨a,vs,xs,h1,h2,h3,h4,h5,org a h6,h7⟩
 |Z=>exact h
 |A=>exact h
 |N=>exact h.elim
 |M=>exact h.elim
theorem Zcf(ha:DE K EX Γ Γ .A ta fa)(hb:DE K EX Γ Γ .P tb fb):DE K EX Γ Γ .P (ZkW ta tb) (fun ρ=>(fa ρ).bind fun x=>(asB x).bind fun b=>if b=true then fb ρ else .ok (.bl false)):=fun B H0 H σ ρ F R Q A d=>by
 refine ha B H0 H σ ρ F R _ A (d.bind.imp (fun x _ d v H1 s1 r1=>?_) fun e q=>q)
 obtain⟨b,rfl,d⟩:=d.bind.asB
 obtain⟨F1,f1,p1,A1⟩:=r1
 cases p1
 refine⟨b,rfl, ?_⟩
 cases b with
 |true=>exact hb B H0 H1 σ ρ F1 R _ A1 (d.imp (fun y _ q w H2 s2 r2=>q w H2 (s1.trans s2) (r2.shift s1 f1)) fun e q=>q)
 |false=>exact d _ H1 s1 ⟨F1,f1,rfl,rfl,A1⟩
theorem Z3(ha:DE K EX Γ Γ' .A ta fa):DT K EX Γ Γ' (Zjo ta) (fun ρ=>(fa ρ).bind asB):=fun B H0 H σ ρ F R Q A d=>by
 refine ha B H0 H σ ρ F R _ A (d.bind.imp (fun x _ d v H1 s1 r1=>?_) fun e q=>q)
 obtain⟨b,rfl,d⟩:=d.asB
 obtain⟨F1,f1,p1,A1⟩:=r1
 cases p1
 exact⟨b,rfl,d H1 F1 s1 f1 A1⟩
theorem Zaz(ha:DE K EX Γ Γ' .A ta fa):DT K EX Γ Γ' (tB ta) (fun ρ=>(fa ρ).bind asB):=Z3 ha
theorem ZiU{c d:TT}{fc fd:List PV->Rr Bool}(hc:DT K EX Γ Γ c fc)(hd:DT K EX Γ Γ d fd):DT K EX Γ Γ (Znz c d) (fun ρ=>(fc ρ).bind fun b=>if b=true then fd ρ else .ok false):=fun B H0 H σ ρ F R Q A dn=>by
 refine hc B H0 H σ ρ F R _ A (dn.bind.imp (fun b _ dn H1 F1 s1 f1 A1=>?_) fun e q=>q)
 cases b with
 |true=>exact hd B H0 H1 σ ρ F1 R _ A1 (dn.imp (fun y _ q H2 F2 s2 f2 A2=>q H2 F2 (s1.trans s2) (fun i a h=>f1 i a (f2 i a h)) A2) fun e q=>q)
 |false=>exact dn H1 F1 s1 f1 A1
theorem Vt{c d:TT}{fc fd:List PV->Rr Bool}(hc:DT K EX Γ Γ c fc)(hd:DT K EX Γ Γ d fd):DT K EX Γ Γ (tOr c d) (fun ρ=>(fc ρ).bind fun b=>if b=true then .ok true else fd ρ):=fun B H0 H σ ρ F R Q A dn=>by
 refine hc B H0 H σ ρ F R _ A (dn.bind.imp (fun b _ dn H1 F1 s1 f1 A1=>?_) fun e q=>q)
 cases b with
 |false=>exact hd B H0 H1 σ ρ F1 R _ A1 (dn.imp (fun y _ q H2 F2 s2 f2 A2=>q H2 F2 (s1.trans s2) (fun i a h=>f1 i a (f2 i a h)) A2) fun e q=>q)
 |true=>exact dn H1 F1 s1 f1 A1
theorem JA{c:TT}{fc:List PV->Rr Bool}(hc:DT K EX Γ Γ' c fc):DT K EX Γ Γ' (Znv c) (fun ρ=>(fc ρ).bind fun b=>.ok (!b)):=fun B H0 H σ ρ F R Q A dn =>
 hc B H0 H σ ρ F R _ A (dn.bind.imp (fun b _ dn H1 F1 s1 f1 A1=>dn H1 F1 s1 f1 A1) fun e q=>q)
end
def DAA(K:W.Frag)(EX:PX->Hp->Prop)(Γ Γ':List Md)(ta:TA)(f:List PV->Rr (List PV)):Prop:=
 ∀(B:Addr->Prop) (H0 H:Hp) (σ:St) (ρ:List PV) (F:Nat->List Addr) (R:List Addr) (Q:List V->Hp->Prop),Ag K B H0 H σ Γ ρ F R ->
  Dn (f ρ) (fun xs=>∀vs H' F',Z6 H H'->(∀i,∀a∈F' i,a∈F i)->Reps K H' (fun _=>True) xs vs->Ag K B H0 H' σ Γ' ρ F' R->Q vs H') (fun e=>∀H',Z6 H0 H'->EX e H')->ta σ H Q
def DAF(K:W.Frag)(EX:PX->Hp->Prop)(Γ Γ':List Md)(ta:TA)(f:List PV->Rr (List PV)):Prop:=
 ∀(B:Addr->Prop) (H0 H:Hp) (σ:St) (ρ:List PV) (F:Nat->List Addr) (R:List Addr) (Q:List V->Hp->Prop),Ag K B H0 H σ Γ ρ F R ->
  Dn (f ρ) (fun xs=>∀vs H' F' G,Z6 H H'->(∀i,∀a∈F' i,a∈F i)->Trees K H' xs vs G->(∀a∈G,a ∉ R/\(H a=none\/∃i,a∈F i))->Ag K B H0 H' σ Γ' ρ F' (G++R)->Q vs H') (fun e=>∀H',Z6 H0 H'->EX e H')->ta σ H Q
def DAZ(K:W.Frag)(EX:PX->Hp->Prop)(Γ Γ':List Md)(ta:TA)(f:List PV->Rr (List PV)):Prop:=
 ∀(B:Addr->Prop) (H0 H:Hp) (σ:St) (ρ:List PV) (F:Nat->List Addr) (R:List Addr) (Q:List V->Hp->Prop),Ag K B H0 H σ Γ ρ F R ->
  Dn (f ρ) (fun xs=>∀vs H' F',Z6 H H'->(∀i,∀a∈F' i,a∈F i)->Reps K H' (NO B F' R) xs vs->Ag K B H0 H' σ Γ' ρ F' R->Q vs H') (fun e=>∀H',Z6 H0 H'->EX e H')->ta σ H Q
section
variable {K:W.Frag}{B:Addr->Prop}{EX:PX->Hp->Prop}{H0 H H':Hp}{σ:St}{Γ Γ' Γ1 Γ2:List Md}{ρ:List PV}{F F':Nat->List Addr}{R:List Addr}{k:Kd}{x:PV}{v:V}{te tb:TE}{ta:TA}{f fb:List PV->Rr PV}{fa:List PV->Rr (List PV)}
theorem Ze:DAA K EX Γ Γ ZeV (fun _=>.ok []):=fun B H0 H σ ρ F R Q A d=>d [] H F (Z6.refl H) (fun _ _ h=>h) rfl A
theorem Zb(he:DE K EX Γ Γ1 .A te f)(ha:DAA K EX Γ1 Γ2 ta fa):DAA K EX Γ Γ2 (UO te ta) (fun ρ=>(f ρ).bind fun x=>(fa ρ).bind fun xs=>.ok (x::xs)):=fun B H0 H σ ρ F R Q A d=>by
 refine he B H0 H σ ρ F R _ A (d.bind.imp (fun x _ d v H1 s1 r1=>?_) fun e q=>q)
 obtain⟨F1,f1,p1,A1⟩:=r1
 refine ha B H0 H1 σ ρ F1 R _ A1 (d.bind.imp (fun xs _ d vs H2 F2 s2 f2 p2 A2=>?_) fun e q=>q)
 exact d (v::vs) H2 F2 (s1.trans s2) (fun i a h=>f1 i a (f2 i a h)) ⟨v,vs,rfl,p1.same s2,p2⟩ A2
theorem Ja:DAF K EX Γ Γ ZeV (fun _=>.ok []):=fun B H0 H σ ρ F R Q A d=>d [] H F [] (Z6.refl H) (fun _ _ h=>h) ⟨rfl,rfl⟩ (by simp) A
theorem ZA(he:DE K EX Γ Γ1 .F te f)(ha:DAF K EX Γ1 Γ2 ta fa):DAF K EX Γ Γ2 (UO te ta) (fun ρ=>(f ρ).bind fun x=>(fa ρ).bind fun xs=>.ok (x::xs)):=fun B H0 H σ ρ F R Q A d=>by
 refine he B H0 H σ ρ F R _ A (d.bind.imp (fun x _ d v H1 s1 r1=>?_) fun e q=>q)
 obtain⟨F1,f1,G1,p1,o1,A1⟩:=r1
 refine ha B H0 H1 σ ρ F1 (G1++R) _ A1 (d.bind.imp (fun xs _ d vs H2 F2 G2 s2 f2 p2 o2 A2=>?_) fun e q=>q)
 refine d (v::vs) H2 F2 (G1++G2) (s1.trans s2) (fun i a h=>f1 i a (f2 i a h)) ⟨v,vs,G1,G2,rfl,p1.same s2,p2,fun a ha z=>(o2 a z).1 (ZsQ _ ha),rfl⟩ (fun a ha=>?_) (A2.less fun a ha=>?_)
 ·rcases ZsO.mp ha with z|z
  ·exact o1 a z
  ·obtain⟨o3,o4⟩:=o2 a z
   exact⟨fun q=>o3 (ZsL _ q),o4.elim (fun q=>.inl (s1.free q)) fun⟨i,q⟩=>.inr ⟨i,f1 i a q⟩⟩
 ·simp only[ZsO] at ha ⊢
  rcases ha with (z|z)|z
  ·exact .inr (.inl z)
  ·exact .inl z
  ·exact .inr (.inr z)
theorem Zkv:DAZ K EX Γ Γ ZeV (fun _=>.ok []):=fun B H0 H σ ρ F R Q A d=>d [] H F (Z6.refl H) (fun _ _ h=>h) rfl A
theorem Zil(he:DE K EX Γ Γ1 .Z te f)(ha:DAZ K EX Γ1 Γ2 ta fa):DAZ K EX Γ Γ2 (UO te ta) (fun ρ=>(f ρ).bind fun x=>(fa ρ).bind fun xs=>.ok (x::xs)):=fun B H0 H σ ρ F R Q A d=>by
 refine he B H0 H σ ρ F R _ A (d.bind.imp (fun x _ d v H1 s1 r1=>?_) fun e q=>q)
 obtain⟨F1,f1,p1,A1⟩:=r1
 refine ha B H0 H1 σ ρ F1 R _ A1 (d.bind.imp (fun xs _ d vs H2 F2 s2 f2 p2 A2=>?_) fun e q=>q)
 refine d (v::vs) H2 F2 (s1.trans s2) (fun i a h=>f1 i a (f2 i a h)) ⟨v,vs,rfl, ?_,p2⟩ A2
 exact Rep.mono (fun a us s r=>⟨r.same s2,s.1,s.2.1,fun i z=>s.2.2 i (f2 i a z)⟩) (fun a us r=>s2.im r) p1
noncomputable def mkT(xs:List PV):Rr PV:=if xs.length<=1000 then .ok (.tup xs) else .bad
noncomputable def mkL(xs:List PV):Rr PV:=if xs.length<=1000 then .ok (.lst xs) else .bad
theorem Dn.mkT{xs:List PV}{ok:PV->Prop}{ex:PX->Prop}(d:Dn (mkT xs) ok ex):xs.length<=1000/\ok (.tup xs):=by
 unfold L2.mkT at d
 by_cases h:xs.length<=1000
 ·rw[if_pos h] at d;exact⟨h,d⟩
 ·rw[if_neg h] at d;exact d.elim
theorem Dn.mkL{xs:List PV}{ok:PV->Prop}{ex:PX->Prop}(d:Dn (mkL xs) ok ex):xs.length<=1000/\ok (.lst xs):=by
 unfold L2.mkL at d
 by_cases h:xs.length<=1000
 ·rw[if_pos h] at d;exact⟨h,d⟩
 ·rw[if_neg h] at d;exact d.elim
theorem VG(ha:DAF K EX Γ Γ' ta fa):DE K EX Γ Γ' .F (ZmE ta) (fun ρ=>(fa ρ).bind mkT):=fun B H0 H σ ρ F R Q A d=>by
 refine ha B H0 H σ ρ F R _ A (d.bind.imp (fun xs _ d vs H1 F1 G s1 f1 p1 o1 A1=>?_) fun e q=>q)
 obtain⟨hl,d⟩:=d.mkT
 refine⟨by rw[p1.length];exact Qq hl,fun p hp=>?_⟩
 have e:Z6 H1 (upd H1 p (.tup vs)):=Z6.new hp
 exact d _ _ (s1.trans e) ⟨F1,f1,G,⟨p,vs,rfl,⟨Z4,trivial⟩,p1.same e⟩,o1,A1.grow e⟩
theorem UT(ha:DAA K EX Γ Γ' ta fa):DE K EX Γ Γ' .A (ZmE ta) (fun ρ=>(fa ρ).bind mkT):=fun B H0 H σ ρ F R Q A d=>by
 refine ha B H0 H σ ρ F R _ A (d.bind.imp (fun xs _ d vs H1 F1 s1 f1 p1 A1=>?_) fun e q=>q)
 obtain⟨hl,d⟩:=d.mkT
 refine⟨by rw[p1.length];exact Qq hl,fun p hp=>?_⟩
 have e:Z6 H1 (upd H1 p (.tup vs)):=Z6.new hp
 exact d _ _ (s1.trans e) ⟨F1,f1,⟨p,vs,rfl,⟨Z4,trivial⟩,p1.same e⟩,A1.grow e⟩
theorem Res.newF{H1:Hp}{F1:Nat->List Addr}{G:List Addr}{xs:List PV}{vs:List V}{p:Addr}(s1:Z6 H H1)(f1:∀i,∀a∈F1 i,a∈F i)(p1:Trees K H1 xs vs G)(o1:∀a∈G,a ∉ R/\(H a=none\/∃i,a∈F i))(A1:Ag K B H0 H1 σ Γ' ρ F1 (G++R))(hp:H1 p=none) :
  Res K B H0 H σ Γ' ρ F R .F (.lst xs) (.ref p) (upd H1 p (.lst vs)):=by
 have e:Z6 H1 (upd H1 p (.lst vs)):=Z6.new hp
 have hf:=A1.fresh hp
 refine⟨F1,f1,p::G,⟨p,vs,G,rfl,Z4,p1.same e,fun z=>hf.1 (ZsQ _ z),rfl⟩,fun a ha=>?_,A1.new hp⟩
 rcases ZsT.mp ha with rfl|z
 ·exact⟨fun z=>hf.1 (ZsL _ z),.inl (s1.free hp)⟩
 ·exact o1 a z
theorem Res.newP{H1:Hp}{F1:Nat->List Addr}{xs:List PV}{vs:List V}{p:Addr}{S:Addr->Prop}(s1:Z6 H H1)(f1:∀i,∀a∈F1 i,a∈F i)(p1:Reps K H1 S xs vs)(hx:PV.flats xs=true)(A1:Ag K B H0 H1 σ Γ' ρ F1 R)(hp:H1 p=none) :
  Res K B H0 H σ Γ' ρ F R .F (.lst xs) (.ref p) (upd H1 p (.lst vs)):=Res.newF (G:=[]) s1 f1 (p1.trees hx) (by simp) A1 hp
theorem JS(ha:DAF K EX Γ Γ' ta fa):DE K EX Γ Γ' .F (ZmF ta) (fun ρ=>(fa ρ).bind mkL):=fun B H0 H σ ρ F R Q A d=>by
 refine ha B H0 H σ ρ F R _ A (d.bind.imp (fun xs _ d vs H1 F1 G s1 f1 p1 o1 A1=>?_) fun e q=>q)
 obtain⟨hl,d⟩:=d.mkL
 refine⟨by rw[p1.length];exact Qq hl,fun p hp=>d _ _ (s1.trans (Z6.new hp)) (Res.newF s1 f1 p1 o1 A1 hp)⟩
noncomputable def pIx(x y:PV):Rr PV:=match x,y with
 |.lst xs,.int i=>match atI xs i with
  |some z=>.ok z
  |none=>.bad
 |.tup xs,.int i=>match atI xs i with
  |some z=>.ok z
  |none=>.bad
 |_,_=>.bad
theorem Zfh{S:Addr->Prop}{xs:List PV}{vs:List V}{i:Int}{z:PV}(h:Reps K H S xs vs)(e:atI xs i=some z):∃u,atI vs i=some u/\Rep K H S z u:=by
 unfold atI at e ⊢
 rw[h.length]
 cases q:ixN xs.length i with
 |none=>rw[q] at e;cases e
 |some j =>
  rw[q] at e
  obtain⟨u,e1,e2⟩:=h.get e
  exact⟨u,e1,e2⟩
theorem ZiA{S:Addr->Prop}{x y z:PV}{v w:V}{Q:VK}(hx:Rep K H S x v)(hy:Rep K H (fun _=>True) y w)(e:pIx x y=.ok z)(q:∀u,Rep K H S z u->Q u H):rIx K v w H Q:=by
 cases x<;>cases y<;>first|(simp only[pIx] at e;cases e;done)|skip
 ·rename_i xs i
  obtain⟨a,vs,rfl,hn,hr⟩:=hx
  cases hy
  simp only[pIx] at e
  cases e1:atI xs i with
  |none=>rw[e1] at e;cases e
  |some z' =>
   rw[e1] at e;cases e
   obtain⟨u,e2,e3⟩:=Zfh hr e1
   exact .inl ⟨a,vs,i,u,rfl,rfl,JC hn,e2,q u e3⟩
 ·rename_i xs i
  obtain⟨a,vs,rfl,hn,hr⟩:=hx
  cases hy
  simp only[pIx] at e
  cases e1:atI xs i with
  |none=>rw[e1] at e;cases e
  |some z' =>
   rw[e1] at e;cases e
   obtain⟨u,e2,e3⟩:=Zfh hr e1
   exact .inr (.inl ⟨a,vs,i,u,rfl,rfl,hn.sqT,e2,q u e3⟩)
theorem Zf1(x y:PV)(e:PX):pIx x y≠.exc e:=by
 cases x<;>cases y<;>first|(intro h;simp only[pIx] at h;cases h;done)|skip
 all_goals
  intro h
  simp only[pIx] at h
  split at h<;>cases h
theorem Dn.pIx{x y:PV}{ok:PV->Prop}{ex:PX->Prop}(d:Dn (pIx x y) ok ex):∃z,pIx x y=.ok z/\ok z:=by
 cases e:L2.pIx x y with
 |ok z=>rw[e] at d;exact⟨z,rfl,d⟩
 |exc q=>exact absurd e (Zf1 x y q)
 |bad=>rw[e] at d;exact d.elim
theorem Zw{te ta':TE}{fa':List PV->Rr PV}(ha:DE K EX Γ Γ1 .A ta' fa')(hb:DE K EX Γ1 Γ2 .A tb fb):DE K EX Γ Γ2 .A (tOp (rIx K) ta' tb) (fun ρ=>(fa' ρ).bind fun x=>(fb ρ).bind fun y=>pIx x y):=fun B H0 H σ ρ F R Q A d=>by
 refine two ha hb A d.bind2 fun x y v w H' F' d s hF p1 p2 A'=>?_
 obtain⟨z,e,d⟩:=d.pIx
 exact ZiA p1 p2 e fun u hu=>d u H' s ⟨F',hF,hu,A'⟩
theorem Zmg{te ta':TE}{fa':List PV->Rr PV}(ha:DE K EX Γ Γ1 .Z ta' fa')(hb:DE K EX Γ1 Γ2 .A tb fb):DE K EX Γ Γ2 .Z (tOp (rIx K) ta' tb) (fun ρ=>(fa' ρ).bind fun x=>(fb ρ).bind fun y=>pIx x y):=fun B H0 H σ ρ F R Q A d=>by
 refine ha B H0 H σ ρ F R _ A (d.bind.imp (fun x _ d v H1 s1 r1=>?_) fun e q=>q)
 obtain⟨F1,f1,p1,A1⟩:=r1
 refine hb B H0 H1 σ ρ F1 R _ A1 (d.bind.imp (fun y _ d w H2 s2 r2=>?_) fun e q=>q)
 obtain⟨F2,f2,p2,A2⟩:=r2
 obtain⟨z,e,d⟩:=d.pIx
 have p1':Rep K H2 (NO B F2 R) x v:=Rep.mono (fun a us s r=>⟨r.same s2,s.1,s.2.1,fun i z=>s.2.2 i (f2 i a z)⟩) (fun a us r=>s2.im r) p1
 exact ZiA p1' p2 e fun u hu=>d u H2 (s1.trans s2) ⟨F2,fun i a h=>f1 i a (f2 i a h),hu,A2⟩
def CbP(K:W.Frag)(r:List V->Hp->VK->Prop)(o:List PV->Rr PV):Prop:=∀{H:Hp}{xs:List PV}{vs:List V}{Q:VK},Reps K H (fun _=>True) xs vs->∀z,o xs=.ok z->z.flat=true/\((∀u,Rep K H (fun _=>True) z u->Q u H)->r vs H Q)
theorem ZcS{r:List V->Hp->VK->Prop}{o:List PV->Rr PV}(hr:CbP K r o)(hx:∀xs e,o xs≠.exc e)(ha:DAA K EX Γ Γ' ta fa):DE K EX Γ Γ' .P (tCB r ta) (fun ρ=>(fa ρ).bind o):=fun B H0 H σ ρ F R Q A d=>by
 refine ha B H0 H σ ρ F R _ A (d.bind.imp (fun xs _ d vs H1 F1 s1 f1 p1 A1=>?_) fun e q=>q)
 cases e:o xs with
 |ok z =>
  rw[e] at d
  obtain⟨hf,h⟩:=hr (Q:=Q) p1 z e
  exact h fun u hu=>d u H1 s1 ⟨F1,f1,hf,hu,A1⟩
 |exc q=>exact absurd e (hx xs q)
 |bad=>rw[e] at d;exact d.elim
noncomputable def ZgL(xs:List PV):Rr PV:=match xs with
 |[.lst ys]=>.ok (.int ys.length)
 |[.tup ys]=>.ok (.int ys.length)
 |_=>.bad
theorem VX{S:Addr->Prop}{x:PV}{vs:List V}(h:Reps K H S [x] vs):∃v,vs=[v]/\Rep K H S x v:=by
 obtain⟨v,r,rfl,h1,h2⟩:=h
 cases h2
 exact⟨v,rfl,h1⟩
theorem Zjy{S:Addr->Prop}{x y:PV}{vs:List V}(h:Reps K H S [x,y] vs):∃v w,vs=[v,w]/\Rep K H S x v/\Rep K H S y w:=by
 obtain⟨v,r,rfl,h1,w,r',rfl,h2,h3⟩:=h
 cases h3
 exact⟨v,w,rfl,h1,h2⟩
theorem Ji(ha:DAA K EX Γ Γ' ta fa):DE K EX Γ Γ' .P (tCB (fun xs H Q=>∃p ys,xs=[.ref p]/\(SqL K H p ys\/SqT K H p ys)/\Q (.int ys.length) H) ta) (fun ρ=>(fa ρ).bind ZgL):=by
 refine ZcS (fun {H xs vs Q} h z e=>?_) (fun xs e h=>?_) ha
 ·unfold ZgL at e
  split at e<;>first|(cases e;done)|skip
  all_goals
   cases e
   refine⟨rfl,fun q=>?_⟩
   obtain⟨v,rfl,a,ws,rfl,hn,hr⟩:=VX h
   refine⟨a,ws,rfl, ?_,by rw[hr.length];exact q _ rfl⟩
   first|exact .inl (JC (S:=fun _=>True) hn)|exact .inr hn.sqT
 ·unfold ZgL at h;split at h<;>cases h
noncomputable def Ub:List PV->Option (List Int)
 |[]=>some []
 |.int i::xs=>(Ub xs).map (i::·)
 |_::_=>none
@[simp] theorem Zau(ns:List Int):Ub (ns.map PV.int)=some ns:=by
 induction ns with
 |nil=>rfl
 |cons n ns ih=>simp[Ub,ih]
theorem UC:∀{xs:List PV}{ns:List Int},Ub xs=some ns->xs=ns.map PV.int
 |[],_,h=>by cases h;rfl
 |.int i::xs,ns,h=>by
  simp only[Ub] at h
  cases e:Ub xs with
  |none=>rw[e] at h;cases h
  |some ms=>rw[e] at h;cases h;rw[UC e];rfl
 |.non::_,_,h=>by cases h
 |.bl _::_,_,h=>by cases h
 |.str _::_,_,h=>by cases h
 |.exc _::_,_,h=>by cases h
 |.exa _ _::_,_,h=>by cases h
 |.box _ _ _::_,_,h=>by cases h
 |.fz _::_,_,h=>by cases h
 |.lst _::_,_,h=>by cases h
 |.tup _::_,_,h=>by cases h
theorem V7{S:Addr->Prop}:∀{ns:List Int}{vs:List V},Reps K H S (ns.map PV.int) vs->vs=ns.map V.int
 |[],_,h=>h
 |n::ns,_,h=>by
  obtain⟨v,r,rfl,h1,h2⟩:=h
  cases h1
  rw[V7 h2];rfl
theorem ZbS{S:Addr->Prop}:∀(ns:List Int),Reps K H S (ns.map PV.int) (ns.map V.int)
 |[]=>rfl
 |n::ns=>⟨_,_,rfl,rfl,ZbS ns⟩
theorem Ql{S:Addr->Prop}{ns:List Int}{v:V}(h:Rep K H S (.lst (ns.map PV.int)) v):∃a,v=.ref a/\SqL K H a (ns.map V.int):=by
 obtain⟨a,vs,rfl,hn,hr⟩:=h
 rw[V7 hr] at hn
 exact⟨a,rfl,JC hn⟩
noncomputable def ZbJ(g:List Int->Rr PV)(xs:List PV):Rr PV:=match xs with
 |[.lst ys]=>match Ub ys with
  |some ns=>g ns
  |none=>.bad
 |_=>.bad
theorem Rr.ints{g:List Int->Rr PV}{xs:List PV}{z:PV}(e:ZbJ g xs=.ok z):∃ns,xs=[.lst (ns.map PV.int)]/\g ns=.ok z:=by
 unfold ZbJ at e
 split at e
 ·split at e
  ·rename_i ns h
   exact⟨ns,by rw[UC h],e⟩
  ·cases e
 ·cases e
theorem Q9{g:List Int->Rr PV}(hg:∀ns e,g ns≠.exc e)(xs:List PV)(e:PX):ZbJ g xs≠.exc e:=by
 intro h
 unfold ZbJ at h
 split at h
 ·split at h
  ·exact hg _ _ h
  ·cases h
 ·cases h
noncomputable abbrev ZmL:=ZbJ fun ns=>.ok (.int ns.sum)
theorem Zcc(ha:DAA K EX Γ Γ' ta fa):DE K EX Γ Γ' .P (tCB (fun xs H Q=>∃p,∃ns:List Int,xs=[.ref p]/\SqL K H p (ns.map V.int)/\Q (.int ns.sum) H) ta) (fun ρ=>(fa ρ).bind ZmL):=by
 refine ZcS (fun {H xs vs Q} h z e=>?_) (Q9 fun ns e h=>by cases h) ha
 obtain⟨ns,rfl,e'⟩:=Rr.ints e
 cases e'
 obtain⟨v,rfl,h1⟩:=VX h
 obtain⟨a,rfl,h2⟩:=Ql h1
 exact⟨rfl,fun q=>⟨a,ns,rfl,h2,q _ rfl⟩⟩
noncomputable def ZiL:List Int->Int
 |[]=>0
 |[n]=>n
 |n::ns=>min n (ZiL ns)
theorem ZdP:∀{ns:List Int},ns≠[]->ZiL ns∈ns
 |[],h=>absurd rfl h
 |[n],_=>by simp[ZiL]
 |n::m::ns,_=>by
  have:=ZdP (ns:=m::ns) (by simp)
  show min n (ZiL (m::ns))∈n::m::ns
  rcases Int.le_total n (ZiL (m::ns)) with h|h
  ·rw[Int.min_eq_left h];simp
  ·rw[Int.min_eq_right h];exact Ztk _ this
theorem ZfE:∀{ns:List Int}{x:Int},x∈ns->ZiL ns<=x
 |[n],x,h=>by simp at h;subst h;exact Zub _
 |n::m::ns,x,h=>by
  show min n (ZiL (m::ns))<=x
  rcases ZsT.mp h with rfl|h
  ·exact Int.min_le_left _ _
  ·exact Zvc (Int.min_le_right _ _) (ZfE h)
noncomputable def Zdb:List PV->Option (List Bool)
 |[]=>some []
 |.bl i::xs=>(Zdb xs).map (i::·)
 |_::_=>none
@[simp] theorem Zg8(ns:List Bool):Zdb (ns.map PV.bl)=some ns:=by
 induction ns with
 |nil=>rfl
 |cons n ns ih=>simp[Zdb,ih]
theorem Zek:∀{xs:List PV}{ns:List Bool},Zdb xs=some ns->xs=ns.map PV.bl
 |[],_,h=>by cases h;rfl
 |.bl i::xs,ns,h=>by
  simp only[Zdb] at h
  cases e:Zdb xs with
  |none=>rw[e] at h;cases h
  |some ms=>rw[e] at h;cases h;rw[Zek e];rfl
 |.non::_,_,h=>by cases h
 |.int _::_,_,h=>by cases h
 |.str _::_,_,h=>by cases h
 |.exc _::_,_,h=>by cases h
 |.exa _ _::_,_,h=>by cases h
 |.box _ _ _::_,_,h=>by cases h
 |.fz _::_,_,h=>by cases h
 |.lst _::_,_,h=>by cases h
 |.tup _::_,_,h=>by cases h
theorem Zd3{S:Addr->Prop}:∀{ns:List Bool}{vs:List V},Reps K H S (ns.map PV.bl) vs->vs=ns.map V.bl
 |[],_,h=>h
 |n::ns,_,h=>by
  obtain⟨v,r,rfl,h1,h2⟩:=h
  cases h1
  rw[Zd3 h2];rfl
noncomputable def Zl0(xs:List PV):Rr PV:=match xs with
 |[.lst ys]=>match Zdb ys with
  |some bs=>.ok (.bl (bs.all id))
  |none=>.bad
 |_=>.bad
theorem Zgu(ha:DAA K EX Γ Γ' ta fa):DE K EX Γ Γ' .P (tCB (fun xs H Q=>∃p,∃bs:List Bool,xs=[.ref p]/\SqL K H p (bs.map V.bl)/\Q (.bl (bs.all id)) H) ta) (fun ρ=>(fa ρ).bind Zl0):=by
 refine ZcS (fun {H xs vs Q} h z e=>?_) (fun xs e h=>?_) ha
 ·unfold Zl0 at e
  split at e
  ·split at e
   ·rename_i bs hb
    cases e
    rw[Zek hb] at h
    obtain⟨v,rfl,a,ws,rfl,hn,hr⟩:=VX h
    rw[Zd3 hr] at hn
    exact⟨rfl,fun q=>⟨a,bs,rfl,JC (S:=fun _=>True) hn,q _ rfl⟩⟩
   ·cases e
  ·cases e
 ·unfold Zl0 at h
  split at h
  ·split at h<;>cases h
  ·cases h
noncomputable def Zlw(xs:List PV):Rr PV:=match xs with
 |[.int i]=>.ok (.int i)
 |[.bl b]=>.ok (.int (if b then 1 else 0))
 |_=>.bad
theorem Zif(ha:DAA K EX Γ Γ' ta fa):DE K EX Γ Γ' .P (tCB (fun xs H Q=>(∃i,xs=[.int i]/\Q (.int i) H)\/∃k,xs=[.bl k]/\Q (.int (if k then 1 else 0)) H) ta) (fun ρ=>(fa ρ).bind Zlw):=by
 refine ZcS (fun {H xs vs Q} h z e=>?_) (fun xs e h=>?_) ha
 ·unfold Zlw at e
  split at e<;>first|(cases e;done)|skip
  ·cases e
   obtain⟨v,rfl,h1⟩:=VX h
   cases h1
   exact⟨rfl,fun q=>.inl ⟨_,rfl,q _ rfl⟩⟩
  ·cases e
   obtain⟨v,rfl,h1⟩:=VX h
   cases h1
   exact⟨rfl,fun q=>.inr ⟨_,rfl,q _ rfl⟩⟩
 ·unfold Zlw at h;split at h<;>cases h
end
theorem JD{n:Nat}(h:n<=1000000):n<=sizeLine:=Zth h (by decide)
def LX(K:W.Frag)(H:Hp)(a:Addr)(vs:List V):Prop:=Rd H a (.lst vs)\/KL K a vs
section
end
def Frm(H:Hp)(F:Nat->List Addr)(H':Hp)(F':Nat->List Addr):Prop:=∀a o,H a=some o->(∀i,a ∉ F i)->H' a=some o/\∀i,a ∉ F' i
theorem Frm.refl{H:Hp}{F:Nat->List Addr}:Frm H F H F:=fun a o h n=>⟨h,n⟩
theorem Frm.trans{H H1 H2:Hp}{F F1 F2:Nat->List Addr}(h1:Frm H F H1 F1)(h2:Frm H1 F1 H2 F2):Frm H F H2 F2:=fun a o h n=>let ⟨h3,n3⟩:=h1 a o h n;h2 a o h3 n3
theorem Frm.of{H H':Hp}{F F':Nat->List Addr}(s:Z6 H H')(f:∀i,∀a∈F' i,a∈F i):Frm H F H' F':=fun a o h n=>⟨s a o h,fun i z=>n i (f i a z)⟩
def ItP(K:W.Frag)(S:Addr->Prop)(J:It)(xs:List PV)(H:Hp):Prop:=
 ∀i,(∀x,xs[i]?=some x->J.go i H/\∀v H',J.yld i H v H'->Z6 H H'/\Rep K H' S x v)/\(xs[i]?=none->J.stop i H)
def DI(K:W.Frag)(EX:PX->Hp->Prop)(Γ Γ':List Md)(wi:TI)(f:List PV->Rr (List PV)):Prop:=
 ∀(B:Addr->Prop) (H0 H:Hp) (σ:St) (ρ:List PV) (F:Nat->List Addr) (R:List Addr) (Q:It->Hp->Prop),Ag K B H0 H σ Γ ρ F R ->
  Dn (f ρ) (fun xs=>∀J H' F',Z6 H H'->(∀i,∀a∈F' i,a∈F i)->Ag K B H0 H' σ Γ' ρ F' R->(∀H2 F2,Frm H' F' H2 F2->ItP K (fun a=>NO B F2 R a/\H' a≠none/\∀i,a ∉ F' i) J xs H2)->Q J H') (fun e=>∀H',Z6 H0 H'->EX e H')->wi σ H Q
def DIc(K:W.Frag)(EX:PX->Hp->Prop)(Γ Γ':List Md)(wi:TI)(f:List PV->Rr (List PV)):Prop:=
 ∀(B:Addr->Prop) (H0 H:Hp) (σ:St) (ρ:List PV) (F:Nat->List Addr) (R:List Addr) (Q:It->Hp->Prop),Ag K B H0 H σ Γ ρ F R ->
  Dn (f ρ) (fun xs=>∀J H' F',Z6 H H'->(∀i,∀a∈F' i,a∈F i)->Ag K B H0 H' σ Γ' ρ F' R->(∀H2 F2,Z6 H' H2->(∀i,∀a∈F2 i,a∈F' i)->ItP K (fun a=>NO B F2 R a/\H' a≠none/\∀i,a ∉ F' i) J xs H2)->Q J H') (fun e=>∀H',Z6 H0 H'->EX e H')->wi σ H Q
theorem DI.c{K:W.Frag}{EX:PX->Hp->Prop}{Γ Γ':List Md}{wi:TI}{f:List PV->Rr (List PV)}(h:DI K EX Γ Γ' wi f):DIc K EX Γ Γ' wi f:=fun B H0 H σ ρ F R Q A d =>
 h B H0 H σ ρ F R Q A (d.imp (fun xs _ d J H' F' s1 f1 A1 it=>d J H' F' s1 f1 A1 fun H2 F2 s2 f2=>it H2 F2 (Frm.of s2 f2)) fun e q=>q)
theorem ItP.flat{K:W.Frag}{S S':Addr->Prop}{J:It}{xs:List PV}{H:Hp}(f:PV.flats xs=true)(h:ItP K S J xs H):ItP K S' J xs H:=fun i=>by
 refine⟨fun x hx=>?_,(h i).2⟩
 obtain⟨h1,h2⟩:=(h i).1 x hx
 have fx:∀(xs:List PV) (i:Nat),PV.flats xs=true->xs[i]?=some x->x.flat=true:=by
  intro xs
  induction xs with
  |nil=>intro i _ h;simp at h
  |cons y ys ih =>
   intro i hf hx
   simp only[PV.flats,Bool.and_eq_true] at hf
   cases i with
   |zero=>simp at hx;rw[<- hx];exact hf.1
   |succ i=>exact ih i hf.2 (by simpa using hx)
 exact⟨h1,fun v H' y=>⟨(h2 v H' y).1,(h2 v H' y).2.flatS (fx xs i f hx)⟩⟩
section
variable {K:W.Frag}{B:Addr->Prop}{EX:PX->Hp->Prop}{H0 H H':Hp}{σ:St}{Γ Γ' Γ1 Γ2 Γ3:List Md}{ρ:List PV}{F F':Nat->List Addr}{R:List Addr}{k:Kd}{x:PV}{v:V}{te:TE}{ta:TA}{f:List PV->Rr PV}{fa:List PV->Rr (List PV)}
theorem Rep.frm{F2:Nat->List Addr}{H2:Hp}(h:Frm H F H2 F2)(A:Ag K B H0 H σ Γ ρ F R)(r:Rep K H (NO B F R) x v):Rep K H2 (fun a=>NO B F2 R a/\H a≠none/\∀i,a ∉ F i) x v:=by
 refine Rep.mono (fun a us s r=>?_) (fun a us r=>?_) r
 ·rcases r with r|⟨o,r⟩
  ·obtain⟨h1,h2⟩:=h a _ r s.2.2;exact⟨.inl h1,⟨s.1,s.2.1,h2⟩,by rw[r];simp,s.2.2⟩
  ·obtain⟨h1,h2⟩:=h a _ r s.2.2;exact⟨.inr ⟨o,h1⟩,⟨s.1,s.2.1,h2⟩,by rw[r];simp,s.2.2⟩
 ·refine⟨(h a _ r.1 fun i z=>?_).1,r.2⟩
  obtain⟨vs,q⟩:=A.live i a z
  exact ZaW vs.2 r.2 (by rw[r.1] at q;exact Option.some.inj q)
noncomputable def Zct(lo:Int)(n:Nat):List PV:=(List.range n).map fun(k:Nat)=>PV.int (lo+(k:Int))
theorem ZfS{lo:Int}{n:Nat}{S:Addr->Prop}:ItP K S (Itr lo n) (Zct lo n) H:=by
 intro i
 constructor
 ·intro x hx
  unfold Zct at hx
  rw[ZsM] at hx
  by_cases h:i<n
  ·rw[Zt6 h] at hx
   cases hx
   exact⟨h,fun v H' ⟨e1,e2⟩=>by subst e1 e2;exact⟨Z6.refl _,rfl⟩⟩
  ·rw[Zti (by simpa using h)] at hx;cases hx
 ·intro hx
  unfold Zct at hx
  have:=Zt1.mp hx
  show n<=i
  simpa using this
noncomputable def okR(j:Int):Bool:=decide (-(2^62)<=j/\j<2^62)
noncomputable def Zhs(xs:List PV):Rr (List PV):=match xs with
 |[.int j]=>if okR j=true then .ok (Zct 0 j.toNat) else .bad
 |_=>.bad
noncomputable def Zhr(xs:List PV):Rr (List PV):=match xs with
 |[.int i,.int j]=>if (okR i&&okR j)=true then .ok (Zct i (j-i).toNat) else .bad
 |_=>.bad
theorem J8(ha:DAA K EX Γ Γ' ta fa):DI K EX Γ Γ' (ZlN ta) (fun ρ=>(fa ρ).bind Zhs):=fun B H0 H σ ρ F R Q A d=>by
 refine ha B H0 H σ ρ F R _ A (d.bind.imp (fun xs _ d vs H1 F1 s1 f1 p1 A1=>?_) fun e q=>q)
 unfold Zhs at d
 split at d
 ·rename_i j _
  obtain⟨v,rfl,h1⟩:=VX p1
  cases h1
  by_cases h:okR j=true
  ·rw[if_pos h] at d
   have h':=of_decide_eq_true h
   exact⟨j,rfl,h'.1,h'.2,d _ H1 F1 s1 f1 A1 fun H2 F2 _=>ZfS⟩
  ·rw[if_neg h] at d;exact d.elim
 ·exact d.elim
theorem Zgl(ha:DAA K EX Γ Γ' ta fa):DI K EX Γ Γ' (ZlM ta) (fun ρ=>(fa ρ).bind Zhr):=fun B H0 H σ ρ F R Q A d=>by
 refine ha B H0 H σ ρ F R _ A (d.bind.imp (fun xs _ d vs H1 F1 s1 f1 p1 A1=>?_) fun e q=>q)
 unfold Zhr at d
 split at d
 ·rename_i i j _
  obtain⟨v,w,rfl,h1,h2⟩:=Zjy p1
  cases h1;cases h2
  by_cases h:(okR i&&okR j)=true
  ·rw[if_pos h] at d
   rw[Bool.and_eq_true] at h
   have h':=of_decide_eq_true h.1
   have h'':=of_decide_eq_true h.2
   exact⟨i,j,rfl,⟨h'.1,h'.2,h''.1,h''.2⟩,d _ H1 F1 s1 f1 A1 fun H2 F2 _=>ZfS⟩
  ·rw[if_neg h] at d;exact d.elim
 ·exact d.elim
noncomputable def asL(x:PV):Rr (List PV):=match x with
 |.lst xs=>.ok xs
 |_=>.bad
theorem ZfT{a:Addr}{xs:List PV}{S:Addr->Prop}(h:Rep K H S (.lst xs) (.ref a)):ItP K S (Itl K a) xs H:=by
 obtain⟨a',vs,e,hn,hr⟩:=h
 cases e
 intro i
 constructor
 ·intro x hx
  obtain⟨u,e1,e2⟩:=hr.get hx
  refine⟨⟨vs,u,JC hn,e1⟩,fun v H' ⟨e,y⟩=>?_⟩
  subst e
  have:=y vs (JC hn)
  rw[e1] at this;cases this
  exact⟨Z6.refl _,e2⟩
 ·intro hx
  exact⟨vs,JC hn,by rw[hr.length];exact Zt1.mp hx⟩
theorem Jp(he:DE K EX Γ Γ' .Z te f):DI K EX Γ Γ' (ZfX K te) (fun ρ=>(f ρ).bind asL):=fun B H0 H σ ρ F R Q A d=>by
 refine he B H0 H σ ρ F R _ A (d.bind.imp (fun x _ d v H1 s1 r1=>?_) fun e q=>q)
 obtain⟨F1,f1,p1,A1⟩:=r1
 cases x with
 |lst xs =>
  obtain⟨a,vs,rfl,hn,hr⟩:=id p1
  exact⟨a,rfl,⟨vs,JC hn⟩,d _ H1 F1 s1 f1 A1 fun H2 F2 h=>ZfT (p1.frm h A1)⟩
 |_=>exact d.elim
noncomputable def Zm5(x:PV):Rr (List PV):=match x with
 |.lst xs=>if PV.flats xs=true then .ok xs else .bad
 |_=>.bad
theorem Zie(he:DE K EX Γ Γ' .A te f):DIc K EX Γ Γ' (ZfX K te) (fun ρ=>(f ρ).bind Zm5):=fun B H0 H σ ρ F R Q A d=>by
 refine he B H0 H σ ρ F R _ A (d.bind.imp (fun x _ d v H1 s1 r1=>?_) fun e q=>q)
 obtain⟨F1,f1,p1,A1⟩:=r1
 cases x with
 |lst xs =>
  unfold Zm5 at d
  by_cases hf:PV.flats xs=true
  ·simp only[hf,if_true] at d
   obtain⟨a,vs,rfl,hn,hr⟩:=id p1
   exact⟨a,rfl,⟨vs,JC (S:=fun _=>True) hn⟩,d _ H1 F1 s1 f1 A1 fun H2 F2 s2 _=>ItP.flat hf (ZfT (p1.same s2))⟩
  ·simp only[hf] at d;exact d.elim
 |_=>exact d.elim
theorem QR:∀{ns:List Int},PV.flats (ns.map PV.int)=true
 |[]=>rfl
 |n::ns=>by simp only[ZsW,PV.flats,PV.flat,QR,Bool.and_self]
theorem Ziw{ns:List Int}:Zm5 (.lst (ns.map PV.int))=.ok (ns.map PV.int):=by unfold Zm5;simp only[QR,if_true]
def DO(K:W.Frag)(EX:PX->Hp->Prop)(Γ Γ':List Md)(t:TO)(f:List PV->Rr (Option Int)):Prop:=
 ∀(B:Addr->Prop) (H0 H:Hp) (σ:St) (ρ:List PV) (F:Nat->List Addr) (R:List Addr) (Q:Option Int->Hp->Prop),Ag K B H0 H σ Γ ρ F R ->
  Dn (f ρ) (fun o=>∀H' F',Z6 H H'->(∀i,∀a∈F' i,a∈F i)->Ag K B H0 H' σ Γ' ρ F' R->Q o H') (fun e=>∀H',Z6 H0 H'->EX e H')->t σ H Q
theorem Zgj:DO K EX Γ Γ ZeU (fun _=>.ok none):=fun B H0 H σ ρ F R Q A d=>d H F (Z6.refl H) (fun _ _ h=>h) A
noncomputable def asI(x:PV):Rr Int:=match x with
 |.int i=>.ok i
 |_=>.bad
theorem Dn.asI{x:PV}{ok:Int->Prop}{ex:PX->Prop}(d:Dn (asI x) ok ex):∃b,x=.int b/\ok b:=by
 cases x with
 |int b=>exact⟨b,rfl,d⟩
 |_=>exact d.elim
theorem Zgi(he:DE K EX Γ Γ' .A te f):DO K EX Γ Γ' (ZkO te) (fun ρ=>(f ρ).bind fun x=>(asI x).bind fun i=>.ok (some i)):=fun B H0 H σ ρ F R Q A d=>by
 refine he B H0 H σ ρ F R _ A (d.bind.imp (fun x _ d v H1 s1 r1=>?_) fun e q=>q)
 obtain⟨i,rfl,d⟩:=d.bind.asI
 obtain⟨F1,f1,p1,A1⟩:=r1
 cases p1
 exact⟨i,rfl,d H1 F1 s1 f1 A1⟩
noncomputable def Zkz{α:Type}(xs:List α)(lo hi:Option Int):List α:=(xs.drop (HT.sIx xs.length 0 lo)).take (HT.sIx xs.length xs.length hi-HT.sIx xs.length 0 lo)
theorem Reps.cut{S:Addr->Prop}{xs:List PV}{vs:List V}(h:Reps K H S xs vs)(lo hi:Option Int):Reps K H S (Zkz xs lo hi) (ZkC vs lo hi):=by
 unfold Zkz ZkC
 rw[h.length]
 exact(h.drop _).take _
noncomputable def newF(xs:List PV):Rr PV:=if (PV.flats xs&&decide (xs.length<=1000000))=true then .ok (.lst xs) else .bad
theorem Dn.newF{xs:List PV}{ok:PV->Prop}{ex:PX->Prop}(d:Dn (newF xs) ok ex):PV.flats xs=true/\xs.length<=1000000/\ok (.lst xs):=by
 unfold L2.newF at d
 by_cases h:(PV.flats xs&&decide (xs.length<=1000000))=true
 ·rw[if_pos h] at d
  rw[Bool.and_eq_true] at h
  exact⟨h.1,of_decide_eq_true h.2,d⟩
 ·rw[if_neg h] at d;exact d.elim
theorem ZiW{tl th:TO}{fl fh:List PV->Rr (Option Int)}(he:DE K EX Γ Γ1 .A te f)(hl:DO K EX Γ1 Γ2 tl fl)(hh:DO K EX Γ2 Γ3 th fh) :
  DE K EX Γ Γ3 .F (tSl (ZmH K) te tl th) (fun ρ=>(f ρ).bind fun x=>(fl ρ).bind fun lo=>(fh ρ).bind fun hi=>(asL x).bind fun xs=>newF (Zkz xs lo hi)):=fun B H0 H σ ρ F R Q A d=>by
 refine he B H0 H σ ρ F R _ A (d.bind.imp (fun x _ d v H1 s1 r1=>?_) fun e q=>q)
 obtain⟨F1,f1,p1,A1⟩:=r1
 refine hl B H0 H1 σ ρ F1 R _ A1 (d.bind.imp (fun lo _ d H2 F2 s2 f2 A2=>?_) fun e q=>q)
 refine hh B H0 H2 σ ρ F2 R _ A2 (d.bind.imp (fun hi _ d H3 F3 s3 f3 A3=>?_) fun e q=>q)
 cases x with
 |lst xs =>
  obtain⟨h1,h2,d⟩:=Dn.newF d
  obtain⟨a,vs,rfl,hn,hr⟩:=(p1.same s2).same s3
  refine⟨a,vs,rfl,JC (S:=fun _=>True) hn,fun p hp=>?_⟩
  exact d _ _ (((s1.trans s2).trans s3).trans (Z6.new hp)) (Res.newP ((s1.trans s2).trans s3) (fun i a h=>f1 i a (f2 i a (f3 i a h))) (hr.cut lo hi) h1 A3 hp)
 |_=>exact d.elim
noncomputable def ZbI(xs:List PV):Rr PV:=match xs with
 |[.lst ys]=>newF ys
 |[.tup ys]=>newF ys
 |_=>.bad
theorem Vu(ha:DAA K EX Γ Γ' ta fa):DE K EX Γ Γ' .F (tCB (fun xs H Q=>∃p ys,xs=[.ref p]/\(SqL K H p ys\/SqT K H p ys)/\∀l,H l=none->Q (.ref l) (upd H l (.lst ys))) ta) (fun ρ=>(fa ρ).bind ZbI):=fun B H0 H σ ρ F R Q A d=>by
 refine ha B H0 H σ ρ F R _ A (d.bind.imp (fun xs _ d vs H1 F1 s1 f1 p1 A1=>?_) fun e q=>q)
 unfold ZbI at d
 split at d
 ·obtain⟨h1,h2,d⟩:=Dn.newF d
  obtain⟨v,rfl,a,ws,rfl,hn,hr⟩:=VX p1
  exact⟨a,ws,rfl,.inl (JC (S:=fun _=>True) hn),fun l hl=>d _ _ (s1.trans (Z6.new hl)) (Res.newP s1 f1 hr h1 A1 hl)⟩
 ·obtain⟨h1,h2,d⟩:=Dn.newF d
  obtain⟨v,rfl,a,ws,rfl,hn,hr⟩:=VX p1
  exact⟨a,ws,rfl,.inr hn.sqT,fun l hl=>d _ _ (s1.trans (Z6.new hl)) (Res.newP s1 f1 hr h1 A1 hl)⟩
 ·exact d.elim
noncomputable def Vy:PV->String
 |.non => "NoneType"
 |.bl _ => "bool"
 |.int _ => "int"
 |.str _ => "str"
 |.lst _ => "list"
 |.tup _ => "tuple"
 |.exc _ => "?"
 |.exa _ _ => "?"
 |.box _ (.dk _) _ => "dict"
 |.box _ (.dt _) _ => "dict"
 |.box _ (.ob _ _) _ => "?"
 |.box _ .jk _ => "?"
 |.box _ .ls _ => "?"
 |.fz _ => "?"
noncomputable def PV.isX:PV->Bool
 |.exc _=>true
 |.exa _ _=>true
 |.box _ _ _=>true
 |.fz _=>true
 |_=>false
noncomputable def QJ(t n:String):Bool:=t==n || (t == "bool" && n == "int")
noncomputable def ZmB(n:String):Bool:=n == "int" || n == "bool" || n == "str" || n == "list" || n == "tuple"
theorem ZlE(K:W.Frag){n:String}(h:ZmB n=true)(x:PV)(hx:x.isX=false):PySem.W.kitOne K (.type (Vy x)) (.type n)=some (QJ (Vy x) n):=by
 simp only[ZmB,Bool.or_eq_true,beq_iff_eq] at h
 rcases h with (((rfl|rfl)|rfl)|rfl)|rfl<;>cases x<;>first|rfl|cases hx
def Zn3(K:W.Frag)(n:String):List V->Hp->VK->Prop:=fun xs H Q=>∃x p,xs=[x,.ty n]/\Rep K H (fun _=>True) p x/\p.isX=false/\Q (.bl (QJ (Vy p) n)) H
theorem ZV{X:Cx}{n:String}(hn:ZmB n=true)(e:X.K=K:=by rfl):Vx X (.builtin "isinstance") (Zn3 K n):=by
 subst e
 intro pins s σ H xs us Q I r h
 obtain⟨x,p,rfl,hp,hx,q⟩:=h
 obtain⟨u,w',rfl,rx,rn⟩:=ZkI r
 cases rn
 have e:=ZlE X.K hn p hx
 have fin:∀tk,EP X pins σ Q (.bool (QJ (Vy p) n)) { s with toks:=tk }:=fun tk=>⟨.bl _,H,I.tok _,rfl,q⟩
 cases p with
 |non=>cases hp;cases rx;exact PySem.W.kia_one PySem.W.kitx_none I.kIn True.intro e (fun z=>nomatch z) fin
 |bl y=>cases hp;cases rx;exact PySem.W.kia_one PySem.W.kitx_bool I.kIn True.intro e (fun z=>nomatch z) fin
 |int i=>cases hp;obtain⟨t,rfl⟩:=rx;exact PySem.W.kia_one PySem.W.kitx_int I.kIn True.intro e (fun z=>nomatch z) fin
 |str y=>cases hp;obtain⟨t,rfl⟩:=rx;exact PySem.W.kia_one PySem.W.kitx_str I.kIn True.intro e (fun z=>nomatch z) fin
 |exc y=>cases hx
 |exa y i=>cases hx
 |box p s ps=>cases hx
 |fz ps=>cases hx
 |lst ps =>
  obtain⟨a,vs,rfl,hn',hr⟩:=hp
  cases rx
  obtain⟨its,_,pl,_⟩:=I.list (JC (S:=fun _=>True) hn')
  obtain⟨o,h1,h2,_⟩:=pl.isList
  exact PySem.W.kia_one PySem.W.kitx_list I.kIn ⟨o,h1,h2⟩ e (fun z=>nomatch z) fin
 |tup ps =>
  obtain⟨a,vs,rfl,hn',hr⟩:=hp
  cases rx
  obtain⟨its,_,⟨o,h1,h2,_⟩,_⟩:=I.tuple hn'.sqT
  exact PySem.W.kia_one PySem.W.kitx_tuple I.kIn ⟨o,h1,h2⟩ e (fun z=>nomatch z) fin
noncomputable def Zlv(n:String)(x:PV):Rr PV:=if x.isX=true then .bad else .ok (.bl (QJ (Vy x) n))
theorem JZ{n:String}(he:DE K EX Γ Γ' .A te f):DE K EX Γ Γ' .P (tCB (Zn3 K n) (UO te (UO (tC (.ty n)) ZeV))) (fun ρ=>(f ρ).bind (Zlv n)):=fun B H0 H σ ρ F R Q A d=>by
 refine he B H0 H σ ρ F R _ A (d.bind.imp (fun x _ d v H1 s1 r1=>?_) fun e q=>q)
 obtain⟨F1,f1,p1,A1⟩:=r1
 unfold Zlv at d
 cases hx:x.isX with
 |true=>rw[hx] at d;exact d.elim
 |false=>rw[hx] at d;exact⟨v,x,rfl,p1,hx,d _ H1 s1 ⟨F1,f1,rfl,rfl,A1⟩⟩
def Len(fa:List PV->Rr (List PV))(n:Nat):Prop:=∀ρ xs,fa ρ=.ok xs->xs.length=n
theorem Zt:Len (fun _=>.ok []) 0:=fun ρ xs h=>by cases h;rfl
theorem Zg{f:List PV->Rr PV}{fa:List PV->Rr (List PV)}{n:Nat}(h:Len fa n):Len (fun ρ=>(f ρ).bind fun x=>(fa ρ).bind fun xs=>.ok (x::xs)) (n+1):=fun ρ xs e=>by
 dsimp only at e
 cases h1:f ρ with
 |ok x =>
  rw[h1] at e
  cases h2:fa ρ with
  |ok ys=>simp only[Rr.bind_ok,h2] at e;cases e;simp[h ρ ys h2]
  |exc q=>simp only[Rr.bind_ok,h2,Rr.bind_exc] at e;cases e
  |bad=>simp only[Rr.bind_ok,h2,Rr.bind_bad] at e;cases e
 |exc q=>rw[h1] at e;cases e
 |bad=>rw[h1] at e;cases e
def Znp(K:W.Frag)(H:Hp)(a:Addr)(xs:List PV):Prop:=PV.flats xs=true/\∃vs,H a=some (.lst vs)/\Reps K H (fun _=>True) xs vs
def LsR(K:W.Frag)(H:Hp)(x:PV)(v:V)(H':Hp):Prop:=∃y a0 x0 a1 x1 a2 x2,x=.tup [y,.box (some a0) .ls x0,.box (some a1) .ls x1,.box (some a2) .ls x2]/\y.flat=true/\Rep K H' (fun _=>True) y v /\
 Znp K H' a0 x0/\Znp K H' a1 x1/\Znp K H' a2 x2/\H a0=none/\H a1=none/\H a2=none
def Zjf(K:W.Frag)(B:Addr->Prop)(H:Hp)(k:Kd)(x:PV)(v:V)(H':Hp):Prop:=match k with
 |.P=>x.flat=true/\Rep K H' (fun _=>True) x v
 |.F=>∃G,Jg K H' x v G/\∀a∈G,H a=none
 |.N=>∃y a s xs G1 G2,x=.tup [y,.box (some a) s xs]/\Jg K H' y v G1/\Jg K H' (.box (some a) s xs) (.ref a) G2/\(∀b∈G1,b ∉ G2)/\(∀b∈G1,H b=none)/\∀b∈G2,H b=none
 |.M=>LsR K H x v H'
 |_=>Rep K H' (fun a=>B a\/H a=none) x v
noncomputable def spF(K:PySem.W.Frag)(n:Nat)(k:Kd)(W:PX->XK->Hp->Prop)(m:List PV->Rr PV):Sp:=fun vs H Q E=>∃B xs,Reps K H B xs vs/\xs.length=n /\
 Dn (m xs) (fun x=>∀v H',Z6 H H'->Zjf K B H k x v H'->Q v H') (fun e=>∀H',Z6 H H'->W e E H')
def W0:PX->XK->Hp->Prop:=fun _ _ _=>False
def X0:PX->Hp->Prop:=fun _ _=>False
section
variable {n:Nat}{W:PX->XK->Hp->Prop}{m:List PV->Rr PV}{E:XK}
theorem Zij{t:TE}(ht:∀σ H Q,(ta σ H fun vs H1=>spF K n .P W m vs H1 Q E)->t σ H Q)(hW:∀e H',EX e H'->W e E H')(hn:Len fa n)(ha:DAA K EX Γ Γ' ta fa):DE K EX Γ Γ' .P t (fun ρ=>(fa ρ).bind m):=fun B H0 H σ ρ F R Q A d=>by
 refine ht _ _ _ (ha B H0 H σ ρ F R _ A (d.bind.imp (fun xs hx d vs H1 F1 s1 f1 p1 A1=>?_) fun e q=>q))
 exact⟨fun _=>True,xs,p1,hn ρ xs hx,d.imp (fun x _ d v H2 s2 r=>d v H2 (s1.trans s2) ⟨F1,f1,r.1,r.2,A1.grow s2⟩) fun e q H2 s2=>hW e H2 (q H2 (A1.same.trans s2))⟩
theorem Zik{t:TE}(ht:∀σ H Q,(ta σ H fun vs H1=>spF K n .F W m vs H1 Q E)->t σ H Q)(hW:∀e H',EX e H'->W e E H')(hn:Len fa n)(ha:DAA K EX Γ Γ' ta fa):DE K EX Γ Γ' .F t (fun ρ=>(fa ρ).bind m):=fun B H0 H σ ρ F R Q A d=>by
 refine ht _ _ _ (ha B H0 H σ ρ F R _ A (d.bind.imp (fun xs hx d vs H1 F1 s1 f1 p1 A1=>?_) fun e q=>q))
 refine⟨fun _=>True,xs,p1,hn ρ xs hx,d.imp (fun x _ d v H2 s2 r=>?_) fun e q H2 s2=>hW e H2 (q H2 (A1.same.trans s2))⟩
 obtain⟨G,r1,r2⟩:=r
 exact d v H2 (s1.trans s2) ⟨F1,f1,G,r1,fun a ha=>⟨(A1.fresh (r2 a ha)).1,.inl (s1.free (r2 a ha))⟩,A1.more s2 r2 r1.alive⟩
end
end
noncomputable def ZaV{α β:Type}(f:α->Rr β):List α->Rr (List β)
 |[]=>.ok []
 |x::xs=>(f x).bind fun y=>(ZaV f xs).bind fun ys=>.ok (y::ys)
noncomputable def lenM(xs:List PV):Rr Unit:=if xs.length<=1000000 then .ok () else .bad
theorem Dn.lenM{xs:List PV}{ok:Unit->Prop}{ex:PX->Prop}(d:Dn (lenM xs) ok ex):xs.length<=1000000/\ok ():=by
 unfold L2.lenM at d
 by_cases h:xs.length<=1000000
 ·rw[if_pos h] at d;exact⟨h,d⟩
 ·rw[if_neg h] at d;exact d.elim
theorem Rr.assoc{α β γ:Type}{r:Rr α}{f:α->Rr β}{g:β->Rr γ}:(r.bind f).bind g=r.bind fun a=>(f a).bind g:=by cases r<;>rfl
section
variable {K:W.Frag}{B:Addr->Prop}{H0 H:Hp}{σ:St}{Γ:List Md}{ρ:List PV}{F:Nat->List Addr}{R:List Addr}{x:PV}{v:V}
theorem Ag.outF(A:Ag K B H0 H σ Γ ρ F R){i:Nat}(h:Γ.length<=i):F i=[]:=by
 have:=A.slot i
 rw[ZsG,Zti h] at this
 exact this
theorem Ag.push(A:Ag K B H0 H σ Γ ρ F R)(h:Rep K H (NO B F R) x v):Ag K B H0 H (σ++[some v]) (Γ++[.S]) (ρ++[x]) F R:=by
 refine⟨A.same,A.own,A.young,A.youngR,A.live,A.liveR,A.disj,A.disjR,by simp[A.lenS],by simp[A.lenR],fun i=>?_⟩
 by_cases h1:i<Γ.length
 ·have:=A.slot i
  rw[ZsG,ZsG,ZsX h1,ZsX (by rw[A.lenR];exact h1),ZsX (by rw[A.lenS];exact h1),<- ZsG,<- ZsG]
  exact this
 ·by_cases h2:i=Γ.length
  ·subst h2
   rw[ZsG,ZsG,ZsU (ZsN _),ZsU (by rw[A.lenR];exact ZsN _),ZsU (by rw[A.lenS];exact ZsN _),A.lenR,A.lenS]
   simp only[ZuR,Zuc,Zuw]
   exact⟨A.outF (ZsN _),v,rfl,h⟩
  ·rw[ZsG,Zti (by simp;omega)]
   exact A.outF (by omega)
end
inductive RS where
 |next (ρ:List PV)|ret (x:PV)|brk (ρ:List PV)|cont (ρ:List PV)|exc (e:PX)|bad
noncomputable def Rr.thenS{α:Type}:Rr α->(α->RS)->RS
 |.ok a,f=>f a
 |.exc e,_=>.exc e
 |.bad,_=>.bad
noncomputable def RS.seq:RS->(List PV->RS)->RS
 |.next ρ,f=>f ρ
 |r,_=>r
@[simp] theorem Rr.thenS_ok{α:Type}{a:α}{f:α->RS}:(Rr.ok a).thenS f=f a:=rfl
@[simp] theorem RS.seq_next{ρ:List PV}{f:List PV->RS}:(RS.next ρ).seq f=f ρ:=rfl
@[simp] theorem RS.seq_ret{x:PV}{f:List PV->RS}:(RS.ret x).seq f=.ret x:=rfl
structure Tys where
 n:List Md
 b:List Md
 c:List Md
 r:Kd
def DnS(K:W.Frag)(B:Addr->Prop)(EX:PX->Hp->Prop)(Y:Tys)(H0 H:Hp)(F:Nat->List Addr)(D:Ziy)(r:RS):Prop:=match r with
 |.next ρ=>∀σ' H' F',Frm H F H' F'->Ag K B H0 H' σ' Y.n ρ F' []->D.nx σ' H'
 |.brk ρ=>∀σ' H' F',Frm H F H' F'->Ag K B H0 H' σ' Y.b ρ F' []->D.bk σ' H'
 |.cont ρ=>∀σ' H' F',Frm H F H' F'->Ag K B H0 H' σ' Y.c ρ F' []->D.ct σ' H'
 |.ret x=>∀v H',Z6 H0 H'->Zjf K B H0 Y.r x v H'->D.rt v H'
 |.exc e=>∀H',Z6 H0 H'->EX e H'
 |.bad=>False
def DS(K:W.Frag)(EX:PX->Hp->Prop)(Γ:List Md)(Y:Tys)(t:TS)(g:List PV->RS):Prop:=
 ∀(B:Addr->Prop) (H0 H:Hp) (σ:St) (ρ:List PV) (F:Nat->List Addr) (D:Ziy),Ag K B H0 H σ Γ ρ F []->DnS K B EX Y H0 H F D (g ρ)->t D σ H
section
variable {K:W.Frag}{B:Addr->Prop}{EX:PX->Hp->Prop}{H0 H H':Hp}{σ:St}{Γ Γ' Γ1 Γ2 Γ3:List Md}{ρ:List PV}{F F':Nat->List Addr}{R:List Addr}{k:Kd}{x:PV}{v:V}{te:TE}{f fc:List PV->Rr PV}{t u:TS}{g g':List PV->RS}{Y:Tys}{D:Ziy}
theorem DnS.shift{H1:Hp}{F1:Nat->List Addr}{r:RS}(fr:Frm H F H1 F1)(h:DnS K B EX Y H0 H F D r):DnS K B EX Y H0 H1 F1 D r:=by
 cases r with
 |next ρ=>exact fun σ' H' F' fr' A=>h σ' H' F' (fr.trans fr') A
 |brk ρ=>exact fun σ' H' F' fr' A=>h σ' H' F' (fr.trans fr') A
 |cont ρ=>exact fun σ' H' F' fr' A=>h σ' H' F' (fr.trans fr') A
 |ret x=>exact h
 |exc e=>exact h
 |bad=>exact h
theorem DnS.thenS{α:Type}{r:Rr α}{f:α->RS}(h:DnS K B EX Y H0 H F D (r.thenS f)):Dn r (fun a=>DnS K B EX Y H0 H F D (f a)) (fun e=>∀H',Z6 H0 H'->EX e H'):=by
 cases r with
 |ok a=>exact h
 |exc e=>exact h
 |bad=>exact h
theorem ZH:DS K EX Γ ⟨Γ,Γ1,Γ2,k⟩ ZkQ (fun ρ=>.next ρ):=fun B H0 H σ ρ F D A d=>d σ H F Frm.refl A
theorem Zm{Γm:List Md}(h1:DS K EX Γ ⟨Γm,Y.b,Y.c,Y.r⟩ t g)(h2:DS K EX Γm Y u g'):DS K EX Γ Y (Znu t u) (fun ρ=>(g ρ).seq g'):=fun B H0 H σ ρ F D A d=>by
 refine h1 B H0 H σ ρ F _ A ?_
 dsimp only at d
 cases e:g ρ with
 |next ρ1 =>
  rw[e] at d
  exact fun σ' H' F' fr A'=>h2 B H0 H' σ' ρ1 F' D A' (DnS.shift fr d)
 |brk ρ1=>rw[e] at d;exact d
 |cont ρ1=>rw[e] at d;exact d
 |ret x=>rw[e] at d;exact d
 |exc q=>rw[e] at d;exact d
 |bad=>rw[e] at d;exact d
noncomputable def mle(m m':Md):Bool:=m==m' || m'==.U || (m'==.S&&m != .U) || (m'==.O&&m==.P)
noncomputable def ZiK:List Md->List Md->Bool
 |[],[]=>true
 |m::ms,m'::ms'=>mle m m'&&ZiK ms ms'
 |_,_=>false
theorem ZdN:∀{Γ Γ':List Md},ZiK Γ Γ'=true->Γ.length=Γ'.length/\∀i,mle (Γ.getD i .U) (Γ'.getD i .U)=true
 |[],[],_=>⟨rfl,fun i=>by simp[mle]⟩
 |m::ms,m'::ms',h=>by
  simp only[ZiK,Bool.and_eq_true] at h
  obtain⟨h1,h2⟩:=ZdN h.2
  refine⟨by simp[h1],fun i=>?_⟩
  cases i with
  |zero=>simpa using h.1
  |succ i=>simpa using h2 i
 |[],_::_,h=>by cases h
 |_::_,[],h=>by cases h
theorem Ag.weak(A:Ag K B H0 H σ Γ ρ F R)(h:ZiK Γ Γ'=true):∃F',(∀i,∀a∈F' i,a∈F i)/\Ag K B H0 H σ Γ' ρ F' R:=by
 obtain⟨hl,hm⟩:=ZdN h
 let F':Nat->List Addr:=fun i=>if Γ.getD i .U=Γ'.getD i .U then F i else []
 have hF:∀i,∀a∈F' i,a∈F i:=fun i a ha=>by
  by_cases q:Γ.getD i .U=Γ'.getD i .U
  ·simp only[F',if_pos q] at ha;exact ha
  ·simp only[F',if_neg q] at ha;simp at ha
 have up:∀{a},NO B F R a->NO B F' R a:=fun {a} s=>⟨s.1,s.2.1,fun j z=>s.2.2 j (hF j a z)⟩
 refine⟨F',hF,A.same,A.own,fun i a ha=>A.young i a (hF i a ha),A.youngR,fun i a ha=>A.live i a (hF i a ha),A.liveR,fun i j hij a ha z=>A.disj i j hij a (hF i a ha) (hF j a z),fun i a ha=>A.disjR i a (hF i a ha),by rw[A.lenS,hl],by rw[A.lenR,hl],fun i=>?_⟩
 have sl:=A.slot i
 have hmi:=hm i
 by_cases q:Γ.getD i .U=Γ'.getD i .U
 ·simp only[F',if_pos q]
  rw[<- q]
  exact sl.mono (fun a vs s r=>⟨r,up s⟩) (fun a vs r=>r) fun a ha vs r=>r
 ·simp only[F',if_neg q]
  simp only[mle,Bool.or_eq_true,beq_iff_eq,Bool.and_eq_true,bne_iff_ne] at hmi
  rcases hmi with ((z|z)|z)|z
  ·exact absurd z q
  ·rw[z];exact rfl
  rotate_left
  ·rw[z.1]
   rw[z.2] at sl
   obtain⟨e,v,h1,h2,h3⟩:=sl
   exact⟨v,h1,h3.tree h2⟩
  ·rw[z.1]
   have own:∀a∈F i,NO B F' R a:=fun a ha=>⟨A.own a (A.young i a ha),A.disjR i a ha,fun j w=>by
    by_cases hj:j=i
    ·subst hj;simp only[F',if_neg q] at w;simp at w
    ·exact A.disj j i hj a (hF j a w) ha⟩
   cases hmm:Γ.getD i .U with
   |U=>exact absurd hmm z.2
   |P=>rw[hmm] at sl;obtain⟨e,v,h1,h2,h3⟩:=sl;exact⟨rfl,v,h1,h3.flatS h2⟩
   |S=>rw[hmm] at sl;obtain⟨e,v,h1,h2⟩:=sl;exact⟨rfl,v,h1,Rep.mono (fun a vs s r=>⟨r,up s⟩) (fun a vs r=>r) h2⟩
   |T =>
    rw[hmm] at sl
    obtain⟨a,vs,xs,h1,h2,h3,h4,h5⟩:=sl
    refine⟨rfl,_,h1, ?_⟩
    rw[h2]
    exact⟨a,vs,rfl,.inl ⟨.inl h3,own a (by rw[h5];simp)⟩,Reps.mono (fun a vs s r=>⟨r,up s⟩) (fun a vs r=>r) h4⟩
   |O=>rw[hmm] at sl;obtain⟨v,h1,h2⟩:=sl;exact⟨rfl,v,h1,h2.rep own⟩
theorem DS.out{Y':Tys}(h:DS K EX Γ Y t g)(hn:ZiK Y.n Y'.n=true)(hb:ZiK Y.b Y'.b=true)(hc:ZiK Y.c Y'.c=true)(hr:Y.r=Y'.r):DS K EX Γ Y' t g:=fun B H0 H σ ρ F D A d=>by
 refine h B H0 H σ ρ F D A ?_
 cases e:g ρ with
 |next ρ1=>rw[e] at d;exact fun σ' H' F' fr A'=>let ⟨F2,f2,A2⟩:=A'.weak hn;d σ' H' F2 (fr.trans (Frm.of (Z6.refl _) f2)) A2
 |brk ρ1=>rw[e] at d;exact fun σ' H' F' fr A'=>let ⟨F2,f2,A2⟩:=A'.weak hb;d σ' H' F2 (fr.trans (Frm.of (Z6.refl _) f2)) A2
 |cont ρ1=>rw[e] at d;exact fun σ' H' F' fr A'=>let ⟨F2,f2,A2⟩:=A'.weak hc;d σ' H' F2 (fr.trans (Frm.of (Z6.refl _) f2)) A2
 |ret x=>rw[e] at d;exact fun v H' s r=>d v H' s (hr▸r)
 |exc q=>rw[e] at d;exact d
 |bad=>rw[e] at d;exact d
theorem Zbf{H1:Hp}{F1:Nat->List Addr}{i:Nat}{G:List Addr}(s1:Z6 H H1)(f1:∀i,∀a∈F1 i,a∈F i)(o:∀a∈G,H a=none\/∃i,a∈F i):Frm H F H1 (Ul F1 i G):=fun a u h n=>by
 refine⟨s1 a u h,fun j z=>?_⟩
 by_cases q:j=i
 ·subst q
  rw[Zv] at z
  rcases o a z with w|⟨l,w⟩
  ·rw[h] at w;cases w
  ·exact n l w
 ·rw[Z9 q] at z;exact n j (f1 j a z)
theorem ZJ{i:Nat}(he:DE K EX Γ Γ' .P te f)(hi:i<Γ'.length):DS K EX Γ ⟨Γ'.set i .P,Γ1,Γ2,k⟩ (Zi7 te (UE i)) (fun ρ=>(f ρ).thenS fun x=>.next (ρ.set i x)):=fun B H0 H σ ρ F D A d=>by
 refine he B H0 H σ ρ F [] _ A (d.thenS.imp (fun x _ d v H1 s1 r1=>?_) fun e q=>q)
 obtain⟨F1,f1,h1,h2,A1⟩:=r1
 exact d _ H1 _ (Zbf (G:=[]) s1 f1 (by simp)) (Ag.put (G:=[]) (R:=[]) A1 hi (by simp) ⟨rfl,v,rfl,h1,h2⟩)
theorem ZG{i:Nat}(he:DE K EX Γ Γ' .F te f)(hi:i<Γ'.length):DS K EX Γ ⟨Γ'.set i .O,Γ1,Γ2,k⟩ (Zi7 te (UE i)) (fun ρ=>(f ρ).thenS fun x=>.next (ρ.set i x)):=fun B H0 H σ ρ F D A d=>by
 refine he B H0 H σ ρ F [] _ A (d.thenS.imp (fun x _ d v H1 s1 r1=>?_) fun e q=>q)
 obtain⟨F1,f1,G,h1,h2,A1⟩:=r1
 exact d _ H1 _ (Zbf s1 f1 fun a ha=>(h2 a ha).2) (Ag.put (R:=[]) A1 hi (by simp) ⟨v,rfl,h1⟩)
theorem Zkl{i:Nat}(he:DE K EX Γ Γ' .Z te f)(hi:i<Γ'.length):DS K EX Γ ⟨Γ'.set i .S,Γ1,Γ2,k⟩ (Zi7 te (UE i)) (fun ρ=>(f ρ).thenS fun x=>.next (ρ.set i x)):=fun B H0 H σ ρ F D A d=>by
 refine he B H0 H σ ρ F [] _ A (d.thenS.imp (fun x _ d v H1 s1 r1=>?_) fun e q=>q)
 obtain⟨F1,f1,h1,A1⟩:=r1
 refine d _ H1 _ (Zbf (G:=[]) s1 f1 (by simp)) (Ag.put (G:=[]) (R:=[]) A1 hi (by simp) ⟨rfl,v,rfl, ?_⟩)
 refine Rep.mono (fun a us s r=>⟨r,s.1,s.2.1,fun j z=>?_⟩) (fun a us r=>r) h1
 exact s.2.2 j (VO j a z)
theorem Zbk(he:DE K EX Γ Γ' .A te f):DS K EX Γ ⟨Γ',Γ1,Γ2,k⟩ (ZgW te) (fun ρ=>(f ρ).thenS fun _=>.next ρ):=fun B H0 H σ ρ F D A d=>by
 refine he B H0 H σ ρ F [] _ A (d.thenS.imp (fun x _ d v H1 s1 r1=>?_) fun e q=>q)
 obtain⟨F1,f1,h1,A1⟩:=r1
 exact d σ H1 F1 (Frm.of s1 f1) A1
theorem ZK(he:DE K EX Γ Γ' .P te f):DS K EX Γ ⟨Γ3,Γ1,Γ2,.P⟩ (Zmx te) (fun ρ=>(f ρ).thenS fun x=>.ret x):=fun B H0 H σ ρ F D A d=>by
 refine he B H0 H σ ρ F [] _ A (d.thenS.imp (fun x _ d v H1 s1 r1=>?_) fun e q=>q)
 obtain⟨F1,f1,h1,h2,A1⟩:=r1
 exact d v H1 A1.same ⟨h1,h2⟩
theorem ZO(he:DE K EX Γ Γ' .F te f):DS K EX Γ ⟨Γ3,Γ1,Γ2,.F⟩ (Zmx te) (fun ρ=>(f ρ).thenS fun x=>.ret x):=fun B H0 H σ ρ F D A d=>by
 refine he B H0 H σ ρ F [] _ A (d.thenS.imp (fun x _ d v H1 s1 r1=>?_) fun e q=>q)
 obtain⟨F1,f1,G,h1,h2,A1⟩:=r1
 exact d v H1 A1.same ⟨G,h1,fun a ha=>A1.youngR a (by simpa using ha)⟩
theorem Jw{c:TT}{fc:List PV->Rr Bool}(hc:DT K EX Γ Γ' c fc)(h1:DS K EX Γ' Y t g)(h2:DS K EX Γ' Y u g'):DS K EX Γ Y (Znw c t u) (fun ρ=>(fc ρ).thenS fun b=>if b=true then g ρ else g' ρ):=fun B H0 H σ ρ F D A d=>by
 refine hc B H0 H σ ρ F [] _ A (d.thenS.imp (fun b _ d H1 F1 s1 f1 A1=>?_) fun e q=>q)
 cases b with
 |true=>exact h1 B H0 H1 σ ρ F1 D A1 (DnS.shift (Frm.of s1 f1) d)
 |false=>exact h2 B H0 H1 σ ρ F1 D A1 (DnS.shift (Frm.of s1 f1) d)
theorem UG:DS K EX Γ Y Zi4 (fun _=>.bad):=fun B H0 H σ ρ F D A d=>d
theorem Zkn{i:Nat}{h:Int->Int->Int}(hm:Γ[i]?=some .P)(he:DE K EX Γ Γ .A te f):DS K EX Γ ⟨Γ,Γ1,Γ2,k⟩ (Zny i te (ipI h)) (fun ρ=>(f ρ).thenS fun y=>(oI (fun _ _=>true) (fun i j=>.int (h i j)) (gv i ρ) y).thenS fun z=>.next (ρ.set i z)):=fun B H0 H σ ρ F D A d=>by
 obtain⟨v,h1,h2,h3⟩:=A.getP hm
 refine⟨v,h1,he B H0 H σ ρ F [] _ A (d.thenS.imp (fun y _ d w H1 s1 r1=>?_) fun e q=>q)⟩
 obtain⟨F1,f1,p1,A1⟩:=r1
 have h3':=h3.same s1
 change Rep K H1 _ (gv i ρ) v at h3'
 generalize gv i ρ=gx at h3' d
 cases gx<;>cases y<;>first|(exact d.elim;done)|skip
 rename_i p q _
 cases h3';cases p1
 refine⟨p,q,rfl,rfl,d _ H1 _ (Zbf (i:=i) (G:=[]) s1 f1 (by simp)) ?_⟩
 have:=Ag.put (i:=i) (m:=.P) (x:=.int (h p q)) (v:=.int (h p q)) (G:=[]) (R:=[]) A1 (A.lt hm) (by simp) ⟨rfl,_,rfl,rfl,rfl⟩
 have e:Γ.set i .P=Γ:=by
  apply Zt9
  intro j
  by_cases q:i=j
  ·subst q;rw[Ztr (A.lt hm),hm]
  ·rw[Ztz q]
 rw[e] at this
 exact this
variable {ti:TE}{fi:List PV->Rr PV}
theorem Zhb{i:Nat}{m:Md}(h:Γ[i]?=some m):Γ.set i m=Γ:=by
 apply Zt9
 intro j
 by_cases q:i=j
 ·subst q;rw[Ztr (ZsJ.mp h).1,h]
 ·rw[Ztz q]
theorem Ag.chgB{i:Nat}{m:Md}{a:Addr}{o':HO}(ho:Lvo o'){x':PV}{G G':List Addr}(A:Ag K B H0 H σ Γ ρ F (G++R))(hm:Γ[i]?=some m)(ha:a∈F i)(hG:∀b∈G',b∈F i\/b∈G)(hGR:∀b∈G,b ∉ R)(hs:UI K (upd H a o') (NO B (Ul F i G') R) m x' σ[i]? G'):Ag K B H0 (upd H a o') σ Γ (ρ.set i x') (Ul F i G') R:=by
 obtain⟨us,hH⟩:=A.live i a ha
 have hi:=A.lt hm
 have liveU:∀b,(∃us:LvO,H b=some us.1)->∃us:LvO,upd H a o' b=some us.1:=fun b ⟨us,q⟩=>by
  by_cases e:b=a
  ·exact⟨⟨o',ho⟩,by rw[e,Z4]⟩
  ·exact⟨us,by rw[Zy e];exact q⟩
 refine⟨A.same.upd (A.young i a ha),A.own,fun j b hb=>?_,fun b hb=>A.youngR b (ZsL _ hb),fun j b hb=>liveU b ?_,fun b hb=>liveU b (A.liveR b (ZsL _ hb)),fun j l hjl b hb z=>?_,fun j b hb z=>?_,A.lenS,by simp[A.lenR],fun j=>?_⟩
 ·by_cases q:j=i
  ·subst q;rw[Zv] at hb
   rcases hG b hb with z|z
   ·exact A.young j b z
   ·exact A.youngR b (ZsQ _ z)
  ·rw[Z9 q] at hb;exact A.young j b hb
 ·by_cases q:j=i
  ·subst q;rw[Zv] at hb
   rcases hG b hb with z|z
   ·exact A.live j b z
   ·exact A.liveR b (ZsQ _ z)
  ·rw[Z9 q] at hb;exact A.live j b hb
 ·by_cases q:j=i
  ·subst q
   rw[Zv] at hb
   rw[Z9 (Ne.symm hjl)] at z
   rcases hG b hb with w|w
   ·exact A.disj j l hjl b w z
   ·exact A.disjR l b z (ZsQ _ w)
  ·rw[Z9 q] at hb
   by_cases q':l=i
   ·subst q'
    rw[Zv] at z
    rcases hG b z with w|w
    ·exact A.disj j l hjl b hb w
    ·exact A.disjR j b hb (ZsQ _ w)
   ·rw[Z9 q'] at z;exact A.disj j l hjl b hb z
 ·by_cases q:j=i
  ·subst q;rw[Zv] at hb
   rcases hG b hb with w|w
   ·exact A.disjR j b w (ZsL _ z)
   ·exact hGR b w z
  ·rw[Z9 q] at hb;exact A.disjR j b hb (ZsL _ z)
 ·by_cases q:j=i
  ·subst q
   rw[Zv,ZsG,ZsG,hm,Ztr (by rw[A.lenR];exact hi)]
   exact hs
  ·rw[Z9 q,ZsG (l:=ρ.set _ _),Ztz (Ne.symm q),<- ZsG]
   refine(A.slot j).mono (fun b us s r=>?_) (fun b us r=>Im.putL hH r) fun b hb us r=>?_
   ·have hne:b≠a:=fun z=>s.2.2 i (z▸ha)
    refine⟨?_,s.1,fun z=>s.2.1 (ZsL _ z),fun l z=>?_⟩
    ·rcases r with r|⟨o,r⟩
     ·exact .inl (by rw[Zy hne];exact r)
     ·exact .inr ⟨o,by rw[Zy hne];exact r⟩
    ·by_cases q':l=i
     ·subst q';rw[Zv] at z
      rcases hG b z with w|w
      ·exact s.2.2 l w
      ·exact s.2.1 (ZsQ _ w)
     ·rw[Z9 q'] at z;exact s.2.2 l z
   ·have hne:b≠a:=fun z=>A.disj j i q b hb (z▸ha)
    rw[Zy hne];exact r
theorem Ag.chg{i:Nat}{m:Md}{a:Addr}{vs':List V}{x':PV}{G G':List Addr}(A:Ag K B H0 H σ Γ ρ F (G++R))(hm:Γ[i]?=some m)(ha:a∈F i)(hG:∀b∈G',b∈F i\/b∈G)(hGR:∀b∈G,b ∉ R)(hs:UI K (upd H a (.lst vs')) (NO B (Ul F i G') R) m x' σ[i]? G'):Ag K B H0 (upd H a (.lst vs')) σ Γ (ρ.set i x') (Ul F i G') R:=Ag.chgB (o':=.lst vs') trivial A hm ha hG hGR hs
theorem QN{H1:Hp}{F1:Nat->List Addr}{i:Nat}{a:Addr}{o:HO}{G':List Addr}(s1:Z6 H H1)(f1:∀i,∀b∈F1 i,b∈F i)(ha:a∈F1 i)(hG:∀b∈G',H b=none\/∃j,b∈F j):Frm H F (upd H1 a o) (Ul F1 i G'):=fun b u h n=>by
 have hne:b≠a:=fun z=>n i (f1 i b (z▸ha))
 refine⟨by rw[Zy hne];exact s1 b u h,fun j z=>?_⟩
 by_cases q:j=i
 ·subst q;rw[Zv] at z
  rcases hG b z with w|⟨l,w⟩
  ·rw[h] at w;cases w
  ·exact n l w
 ·rw[Z9 q] at z;exact n j (f1 j b z)
theorem Trees.setP:∀{xs:List PV}{vs:List V}{G:List Addr}{j:Nat}{y:PV}{w:V},Trees K H xs vs G->Jg K H y w []->∃G',(∀a∈G',a∈G)/\Trees K H (xs.set j y) (vs.set j w) G'
 |[],_,_,_,_,_,h,_=>⟨[],by simp,by rw[h.1];exact⟨rfl,rfl⟩⟩
 |x::xs,_,_,0,y,w,h,h'=>by
  obtain⟨v,r,G1,G2,rfl,h1,h2,h3,rfl⟩:=h
  exact⟨G2,fun a ha=>by simp[ha],w,r,[],G2,rfl,h',h2,by simp,rfl⟩
 |x::xs,_,_,j+1,y,w,h,h'=>by
  obtain⟨v,r,G1,G2,rfl,h1,h2,h3,rfl⟩:=h
  obtain⟨G',h4,h5⟩:=Trees.setP (j:=j) h2 h'
  refine⟨G1++G',fun a ha=>?_,v,r.set j w,G1,G',rfl,h1,h5,fun a ha z=>h3 a ha (h4 a z),rfl⟩
  rcases ZsO.mp ha with z|z
  ·simp[z]
  ·simp[h4 a z]
noncomputable def pSet(x i y:PV):Rr PV:=match x,i with
 |.lst xs,.int j=>match ixN xs.length j with
  |some n=>.ok (.lst (xs.set n y))
  |none=>.bad
 |_,_=>.bad
theorem Dn.pSet{x i y:PV}{ok:PV->Prop}{ex:PX->Prop}(d:Dn (pSet x i y) ok ex):∃xs j n,x=.lst xs/\i=.int j/\ixN xs.length j=some n/\ok (.lst (xs.set n y)):=by
 unfold L2.pSet at d
 split at d
 ·rename_i xs j
  cases e:ixN xs.length j with
  |none=>rw[e] at d;exact d.elim
  |some n=>rw[e] at d;exact⟨xs,j,n,rfl,rfl,e,d⟩
 ·exact d.elim
theorem Vm{i:Nat}(hm:Γ2[i]?=some .O)(he:DE K EX Γ Γ2 .P te f)(hi:DE K EX Γ2 Γ2 .A ti fi) :
  DS K EX Γ ⟨Γ2,Γ1,Γ3,k⟩ (Zi7 te (ZnA (Za9 i) ti Zj2)) (fun ρ=>(f ρ).thenS fun y=>(fi ρ).thenS fun j=>(pSet (gv i ρ) j y).thenS fun z=>.next (ρ.set i z)):=fun B H0 H σ ρ F D A d=>by
 refine he B H0 H σ ρ F [] _ A (d.thenS.imp (fun y _ d w H1 s1 r1=>?_) fun e q=>q)
 obtain⟨F1,f1,y1,y2,A1⟩:=r1
 obtain⟨v,h1,h2⟩:=A1.getO hm
 refine⟨v,h1,hi B H0 H1 σ ρ F1 [] _ A1 (d.thenS.imp (fun j _ d jv H2 s2 r2=>?_) fun e q=>q)⟩
 obtain⟨F2,f2,p2,A2⟩:=r2
 obtain⟨xs,jj,n,e1,rfl,e2,d⟩:=Dn.pSet d.thenS
 obtain⟨v',h1',h2'⟩:=A2.getO hm
 rw[h1] at h1';cases h1'
 rw[show ρ.getD i .non=.lst xs from e1] at h2'
 obtain⟨a,vs,G,rfl,hH,ht,hn,hF⟩:=h2'
 cases p2
 refine⟨a,vs,jj,n,rfl,rfl,hH,by rw[ht.length];exact e2, ?_⟩
 obtain⟨G',g1,g2⟩:=Trees.setP (j:=n) ht ((y2.same s2).tree y1)
 have haF:a∈F2 i:=by rw[hF];simp
 have hsub:∀b∈a::G',b∈F2 i:=fun b hb=>by
  rw[hF]
  rcases ZsT.mp hb with rfl|hb
  ·simp
  ·simp[g1 b hb]
 refine d σ _ (Ul F2 i (a::G')) (QN (s1.trans s2) (fun j b hb=>f1 j b (f2 j b hb)) haF fun b hb=>.inr ⟨i,f1 i b (f2 i b (hsub b hb))⟩) (Ag.chg (G:=[]) A2 hm haF (fun b hb=>.inl (hsub b hb)) (by simp) ?_)
 exact⟨_,h1,a,_,G',rfl,Z4,g2.put hH (fun z=>hn (g1 a z)),fun z=>hn (g1 a z),rfl⟩
noncomputable def pApp(x y:PV):Rr PV:=match x with
 |.lst xs=>if xs.length<1000000 then .ok (.lst (xs++[y])) else .bad
 |_=>.bad
theorem Dn.pApp{x y:PV}{ok:PV->Prop}{ex:PX->Prop}(d:Dn (pApp x y) ok ex):∃xs,x=.lst xs/\xs.length<1000000/\ok (.lst (xs++[y])):=by
 unfold L2.pApp at d
 split at d
 ·rename_i xs
  by_cases h:xs.length<1000000
  ·rw[if_pos h] at d;exact⟨xs,rfl,h,d⟩
  ·rw[if_neg h] at d;exact d.elim
 ·exact d.elim
theorem Dn.asL{x:PV}{ok:List PV->Prop}{ex:PX->Prop}(d:Dn (asL x) ok ex):∃xs,x=.lst xs/\ok xs:=by
 cases x with
 |lst xs=>exact⟨xs,rfl,d⟩
 |_=>exact d.elim
theorem UR{i:Nat}(hm:Γ[i]?=some .O)(hm2:Γ2[i]?=some .O)(he:DE K EX Γ Γ2 .F te f) :
  DS K EX Γ ⟨Γ2,Γ1,Γ3,k⟩ (ZgW (tBM K "list" Zc8 (Za9 i) (UO te ZeV))) (fun ρ=>(asL (gv i ρ)).thenS fun xs=>(f ρ).thenS fun y=>(pApp (.lst xs) y).thenS fun z=>.next (ρ.set i z)):=fun B H0 H σ ρ F D A d=>by
 obtain⟨v,h1,h2⟩:=A.getO hm
 refine⟨v,h1, ?_⟩
 obtain⟨xs,e1,d⟩:=Dn.asL d.thenS
 rw[show ρ.getD i .non=.lst xs from e1] at h2
 obtain⟨a,vs,G,rfl,hH,ht,hn,hF⟩:=h2
 refine⟨.inl ⟨rfl,_,SqL.of hH⟩,he B H0 H σ ρ F [] _ A (d.thenS.imp (fun y _ d w H2 s2 r2=>?_) fun e q=>q)⟩
 obtain⟨F2,f2,G2,y1,y2,A2⟩:=r2
 obtain⟨xs',e2,hlen,d⟩:=Dn.pApp d.thenS
 cases e2
 obtain⟨v',h1',h2'⟩:=A2.getO hm2
 rw[h1] at h1';cases h1'
 rw[show ρ.getD i .non=.lst xs from e1] at h2'
 obtain⟨a',vs',G',e,hH',ht',hn',hF'⟩:=h2'
 cases e
 refine⟨a,vs',w,rfl,rfl,hH',by rw[ht'.length];exact Ztb hlen (by decide), ?_⟩
 have haF:a∈F2 i:=by rw[hF'];simp
 have dj:∀b∈G',b ∉ G2:=fun b hb z=>A2.disjR i b (by rw[hF'];simp[hb]) (ZsQ _ z)
 have na:a ∉ G2:=fun z=>A2.disjR i a haF (ZsQ _ z)
 have hsub:∀b∈a::(G'++G2),b∈F2 i\/b∈G2:=fun b hb=>by
  rw[hF']
  rcases ZsT.mp hb with rfl|hb
  ·simp
  ·rcases ZsO.mp hb with z|z
   ·simp[z]
   ·exact .inr z
 have hna:a ∉ G'++G2:=fun z=>(ZsO.mp z).elim hn' na
 refine d σ _ (Ul F2 i (a::(G'++G2))) (QN s2 f2 haF fun b hb=>?_) (Ag.chg (G:=G2) (R:=[]) A2 hm2 haF hsub (by simp) ?_)
 ·rcases hsub b hb with z|z
  ·exact .inr ⟨i,f2 i b z⟩
  ·exact(y2 b z).2
 ·exact⟨_,h1,a,_,G'++G2,rfl,Z4,(Trees.append ht' (Trees.one y1) dj).put hH' hna,hna,rfl⟩
def DG(K:W.Frag)(EX:PX->Hp->Prop)(Γ Γ':List Md)(g:TG)(h:PV->List PV->Rr (List PV)):Prop:=
 ∀(B:Addr->Prop) (H0 H:Hp) (σ:St) (ρ:List PV) (F:Nat->List Addr) (v:V) (x:PV) (N:St->Hp->Prop),Ag K B H0 H σ Γ ρ F []->Rep K H (NO B F []) x v ->
  Dn (h x ρ) (fun ρ'=>∀σ' F',(∀i,∀a∈F' i,a∈F i)->Ag K B H0 H σ' Γ' ρ' F' []->N σ' H) (fun e=>∀H',Z6 H0 H'->EX e H')->g v σ H N
theorem ZnB{i:Nat}(hi:i<Γ.length):DG K EX Γ (Γ.set i .S) (UE i) (fun x ρ=>.ok (ρ.set i x)):=fun B H0 H σ ρ F v x N A r d =>
 d _ (Ul F i []) VO (Ag.put (G:=[]) (R:=[]) A hi (by simp) ⟨rfl,v,rfl,Rep.mono (fun a us s r=>⟨r,s.1,s.2.1,fun j z=>s.2.2 j (VO j a z)⟩) (fun a us r=>r) r⟩)
theorem ZeF{i:Nat}(hi:i<Γ.length):DG K EX Γ (Γ.set i .P) (UE i) (fun x ρ=>(grd x).bind fun x=>.ok (ρ.set i x)):=fun B H0 H σ ρ F v x N A r d=>by
 unfold grd at d;dsimp only at d
 by_cases h:x.flat=true
 ·rw[if_pos h] at d
  exact d _ (Ul F i []) VO (Ag.put (G:=[]) (R:=[]) A hi (by simp) ⟨rfl,v,rfl,h,r.any⟩)
 ·rw[if_neg h] at d;exact d.elim
noncomputable def Zn8(xs ρ:List PV):Rr (List PV):=match xs with
 |[]=>.ok ρ
 |_=>.bad
noncomputable def hdR(h:PV->List PV->Rr (List PV))(hs:List PV->List PV->Rr (List PV))(xs:List PV)(ρ:List PV):Rr (List PV):=match xs with
 |x::r=>(h x ρ).bind fun ρ'=>hs r ρ'
 |[]=>.bad
noncomputable def asT(n:Nat)(x:PV):Rr (List PV):=match x with
 |.tup xs=>if xs.length=n then .ok xs else .bad
 |_=>.bad
theorem Dn.asT{n:Nat}{x:PV}{ok:List PV->Prop}{ex:PX->Prop}(d:Dn (asT n x) ok ex):∃xs,x=.tup xs/\xs.length=n/\ok xs:=by
 cases x with
 |tup xs =>
  unfold L2.asT at d
  by_cases h:xs.length=n
  ·simp only[if_pos h] at d;exact⟨xs,rfl,h,d⟩
  ·simp only[if_neg h] at d;exact d.elim
 |_=>exact d.elim
def DGF(K:W.Frag)(EX:PX->Hp->Prop)(Γ Γ':List Md)(g:TG)(h:PV->List PV->Rr (List PV)):Prop:=
 ∀(B:Addr->Prop) (H0 H:Hp) (σ:St) (ρ:List PV) (F:Nat->List Addr) (G R:List Addr) (v:V) (x:PV) (N:St->Hp->Prop),Ag K B H0 H σ Γ ρ F (G++R)->(∀a∈G,a ∉ R)->Jg K H x v G ->
  Dn (h x ρ) (fun ρ'=>∀σ' F',(∀i,∀a∈F' i,a∈F i\/a∈G)->Ag K B H0 H σ' Γ' ρ' F' R->N σ' H) (fun e=>∀H',Z6 H0 H'->EX e H')->g v σ H N
def Zm8(K:W.Frag)(EX:PX->Hp->Prop)(Γ Γ':List Md)(g:TGs)(h:List PV->List PV->Rr (List PV)):Prop:=
 ∀(B:Addr->Prop) (H0 H:Hp) (σ:St) (ρ:List PV) (F:Nat->List Addr) (G R:List Addr) (vs:List V) (xs:List PV) (N:St->Hp->Prop),Ag K B H0 H σ Γ ρ F (G++R)->(∀a∈G,a ∉ R)->Trees K H xs vs G ->
  Dn (h xs ρ) (fun ρ'=>∀σ' F',(∀i,∀a∈F' i,a∈F i\/a∈G)->Ag K B H0 H σ' Γ' ρ' F' R->N σ' H) (fun e=>∀H',Z6 H0 H'->EX e H')->g vs σ H N
theorem Zmc{i:Nat}(hi:i<Γ.length):DGF K EX Γ (Γ.set i .O) (UE i) (fun x ρ=>.ok (ρ.set i x)):=fun B H0 H σ ρ F G R v x N A hG r d =>
 d _ (Ul F i G) (fun j a ha=>by
  by_cases q:j=i
  ·subst q;rw[Zv] at ha;exact .inr ha
  ·rw[Z9 q] at ha;exact .inl ha) (Ag.put A hi hG ⟨v,rfl,r⟩)
theorem Zmb{i:Nat}(hi:i<Γ.length):DGF K EX Γ (Γ.set i .P) (UE i) (fun x ρ=>(grd x).bind fun x=>.ok (ρ.set i x)):=fun B H0 H σ ρ F G R v x N A hG r d=>by
 unfold grd at d;dsimp only at d
 by_cases h:x.flat=true
 ·rw[if_pos h] at d
  exact d _ (Ul F i []) (fun j a ha=>.inl (VO j a ha)) (Ag.put (G:=[]) (A.less fun a ha=>ZsL _ ha) hi (by simp) ⟨rfl,v,rfl,h,r.rep fun _ _=>trivial⟩)
 ·rw[if_neg h] at d;exact d.elim
theorem Zea:Zm8 K EX Γ Γ Znc Zn8:=fun B H0 H σ ρ F G R vs xs N A hG r d=>by
 cases xs with
 |nil=>exact⟨r.1,d σ F (fun _ _ h=>.inl h) (A.less fun a ha=>ZsL _ ha)⟩
 |cons x xs=>exact d.elim
theorem UH{g:TG}{gs:TGs}{h:PV->List PV->Rr (List PV)}{hs:List PV->List PV->Rr (List PV)}(h1:DGF K EX Γ Γ1 g h)(h2:Zm8 K EX Γ1 Γ2 gs hs):Zm8 K EX Γ Γ2 (ZhW g gs) (hdR h hs):=fun B H0 H σ ρ F G R vs xs N A hG r d=>by
 cases xs with
 |nil=>exact d.elim
 |cons x xs =>
  obtain⟨v,r',G1,G2,rfl,r1,r2,dj,rfl⟩:=r
  refine⟨v,r',rfl,h1 B H0 H σ ρ F G1 (G2++R) v x _ (by rw[<- ZsS];exact A) (fun a ha z=>?_) r1 ((show Dn ((h x ρ).bind fun ρ'=>hs xs ρ') _ _ from d).bind.imp (fun ρ' _ d σ' F' f' A'=>?_) fun e q=>q)⟩
  ·rcases ZsO.mp z with z|z
   ·exact dj a ha z
   ·exact hG a (ZsQ _ ha) z
  ·refine h2 B H0 H σ' ρ' F' G2 R r' xs _ A' (fun a ha=>hG a (ZsL _ ha)) r2 (d.imp (fun ρ2 _ d σ2 F2 f2 A2=>d σ2 F2 (fun j a ha=>?_) A2) fun e q=>q)
   rcases f2 j a ha with z|z
   ·rcases f' j a z with w|w
    ·exact .inl w
    ·exact .inr (ZsQ _ w)
   ·exact .inr (ZsL _ z)
theorem Zgm{n:Nat}{gs:TGs}{hs:List PV->List PV->Rr (List PV)}(h2:Zm8 K EX Γ Γ2 gs hs):DGF K EX Γ Γ2 (Zna K n gs) (fun x ρ=>(asT n x).bind fun xs=>hs xs ρ):=fun B H0 H σ ρ F G R v x N A hG r d=>by
 obtain⟨xs,rfl,hl,d⟩:=Dn.asT d.bind
 obtain⟨a,vs,rfl,hn,hr⟩:=r
 exact⟨a,vs,rfl,hn.sqT,by rw[hr.length];exact hl,h2 B H0 H σ ρ F G R vs xs N A hG hr d⟩
theorem Zgh{gt:TG}{h:PV->List PV->Rr (List PV)}(he:DE K EX Γ Γ1 .F te f)(hg:DGF K EX Γ1 Γ2 gt h):DS K EX Γ ⟨Γ2,Γ3,Γ',k⟩ (Zi7 te gt) (fun ρ=>(f ρ).thenS fun x=>(h x ρ).thenS fun ρ'=>.next ρ'):=fun B H0 H σ ρ F D A d=>by
 refine he B H0 H σ ρ F [] _ A (d.thenS.imp (fun x _ d v H1 s1 r1=>?_) fun e q=>q)
 obtain⟨F1,f1,G,h1,h2,A1⟩:=r1
 refine hg B H0 H1 σ ρ F1 G [] v x _ A1 (by simp) h1 (d.thenS.imp (fun ρ' _ d σ' F' f' A'=>d σ' H1 F' (fun a o ho n=>⟨s1 a o ho,fun j z=>?_⟩) A') fun e q=>q)
 rcases f' j a z with w|w
 ·exact n j (f1 j a w)
 ·rcases (h2 a w).2 with q|⟨l,q⟩
  ·rw[ho] at q;cases q
  ·exact n l q
end
noncomputable def RS.turn:RS->(List PV->RS)->RS
 |.next ρ,f=>f ρ
 |.cont ρ,f=>f ρ
 |.brk ρ,_=>.next ρ
 |r,_=>r
noncomputable def QO(b:PV->List PV->RS):List PV->List PV->RS
 |[],ρ=>.next ρ
 |x::xs,ρ=>(b x ρ).turn (QO b xs)
noncomputable def V2(c:List PV->Rr Bool)(b:List PV->RS):Nat->List PV->Option RS
 |0,_=>none
 |n+1,ρ=>match c ρ with
  |.ok true=>match b ρ with
   |.next ρ'=>V2 c b n ρ'
   |.cont ρ'=>V2 c b n ρ'
   |.brk ρ'=>some (.next ρ')
   |r=>some r
  |.ok false=>some (.next ρ)
  |.exc e=>some (.exc e)
  |.bad=>some .bad
open Classical in
noncomputable def VY(c:List PV->Rr Bool)(b:List PV->RS)(ρ:List PV):RS:=if h:∃n r,V2 c b n ρ=some r then h.choose_spec.choose else .bad
theorem VQ{c:List PV->Rr Bool}{b:List PV->RS}:∀{n m:Nat}{ρ:List PV}{r:RS},n<=m->V2 c b n ρ=some r->V2 c b m ρ=some r
 |0,_,_,_,_,h=>by cases h
 |n+1,0,_,_,hl,_=>by omega
 |n+1,m+1,ρ,r,hl,h=>by
  unfold V2 at h ⊢
  cases hc:c ρ with
  |ok b' =>
   cases b' with
   |true =>
    rw[hc] at h
    cases hb:b ρ with
    |next ρ'=>rw[hb] at h;exact VQ (by omega) h
    |cont ρ'=>rw[hb] at h;exact VQ (by omega) h
    |brk ρ'=>rw[hb] at h;exact h
    |ret x=>rw[hb] at h;exact h
    |exc e=>rw[hb] at h;exact h
    |bad=>rw[hb] at h;exact h
   |false=>rw[hc] at h;exact h
  |exc e=>rw[hc] at h;exact h
  |bad=>rw[hc] at h;exact h
theorem ZfU{c:List PV->Rr Bool}{b:List PV->RS}{n m:Nat}{ρ:List PV}{r r':RS}(h:V2 c b n ρ=some r)(h':V2 c b m ρ=some r'):r=r':=by
 rcases Nat.le_total n m with q|q
 ·have:=VQ q h;rw[h'] at this;exact(Option.some.inj this).symm
 ·have:=VQ q h';rw[h] at this;exact Option.some.inj this
theorem Zb0{c:List PV->Rr Bool}{b:List PV->RS}{n:Nat}{ρ:List PV}{r:RS}(h:V2 c b n ρ=some r):VY c b ρ=r:=by
 unfold VY
 have hx:∃n r,V2 c b n ρ=some r:=⟨n,r,h⟩
 rw[dif_pos hx]
 exact ZfU hx.choose_spec.choose_spec h
section
variable {K:W.Frag}{B:Addr->Prop}{EX:PX->Hp->Prop}{H0 H H':Hp}{σ:St}{Γ Γ1 Γ2 Γ3 Γl Γt:List Md}{ρ:List PV}{F F':Nat->List Addr}{k:Kd}{x:PV}{v:V}{te ti:TE}{f fc fe:List PV->Rr PV}{t u:TS}{g:List PV->RS}{D:Ziy}
theorem JR{wi:TI}{gt:TG}{fi:List PV->Rr (List PV)}{h:PV->List PV->Rr (List PV)}(hi:DI K EX Γ Γ1 wi fi)(hw:ZiK Γ1 Γl=true)(hg:DG K EX Γl Γt gt h)(hb:DS K EX Γt ⟨Γl,Γl,Γl,k⟩ t g) :
  DS K EX Γ ⟨Γl,Γ2,Γ3,k⟩ (Znx wi gt t) (fun ρ=>(fi ρ).thenS fun xs=>QO (fun x ρ=>(h x ρ).thenS g) xs ρ):=fun B H0 H σ ρ F D A d=>by
 refine hi B H0 H σ ρ F [] _ A (d.thenS.imp (fun xs _ d J H1 F1 s1 f1 A1 it=>?_) fun e q=>q)
 obtain⟨Fl,fl,Al⟩:=A1.weak hw
 have fr0:Frm H F H1 Fl:=Frm.of s1 fun j a ha=>f1 j a (fl j a ha)
 have fr1:Frm H1 F1 H1 Fl:=Frm.of (Z6.refl _) fl
 refine⟨fun i m σ' H'=>∃ρ' F',m=xs.length-i/\i<=xs.length/\Frm H1 F1 H' F'/\Ag K B H0 H' σ' Γl ρ' F' []/\DnS K B EX ⟨Γl,Γ2,Γ3,k⟩ H0 H' F' D (QO (fun x ρ=>(h x ρ).thenS g) (xs.drop i) ρ'),
  ⟨xs.length,ρ,Fl,by simp,Zts _,fr1,Al,by simpa using DnS.shift fr0 d⟩, ?_⟩
 rintro i m σ' H' ⟨ρ',F',rfl,hi',fr,A',dn⟩
 have itp:=it H' F' fr i
 cases hx:xs[i]? with
 |none =>
  refine .inl ⟨itp.2 hx, ?_⟩
  have hd:xs.drop i=[]:=ZtM (Zt1.mp hx)
  rw[hd] at dn
  exact dn σ' H' F' Frm.refl A'
 |some x =>
  have hlt:i<xs.length:=(ZsJ.mp hx).1
  obtain⟨go,yl⟩:=itp.1 x hx
  have hdx:xs.drop i=x::xs.drop (i+1):=by
   rw[Zte hlt]
   rw[ZsH hlt] at hx;cases hx;rfl
  rw[hdx] at dn
  simp only[QO] at dn
  refine .inr ⟨go,fun σ2 H2=>∃ρ2 F2,Frm H1 F1 H2 F2/\Ag K B H0 H2 σ2 Γl ρ2 F2 []/\DnS K B EX ⟨Γl,Γ2,Γ3,k⟩ H0 H2 F2 D (QO (fun x ρ=>(h x ρ).thenS g) (xs.drop (i+1)) ρ2),
   fun σ2 H2 ⟨ρ2,F2,a1,a2,a3⟩=>⟨xs.length-(i+1),by omega,ρ2,F2,rfl,hlt,a1,a2,a3⟩,fun v H3 y=>?_⟩
  obtain⟨s3,rx⟩:=yl v H3 y
  have fr3:Frm H' F' H3 F':=Frm.of s3 fun _ _ h=>h
  refine hg B H0 H3 σ' ρ' F' v x _ (A'.grow s3) (Rep.mono (fun a us s r=>⟨r,s.1⟩) (fun a us r=>r) rx) ?_
  cases e:h x ρ' with
  |ok ρt =>
   rw[e] at dn
   refine fun σt Ft ft At=>hb B H0 H3 σt ρt Ft _ At ?_
   have frt:Frm H' F' H3 Ft:=Frm.of s3 ft
   simp only[Rr.thenS_ok] at dn
   cases e2:g ρt with
   |next ρ2=>rw[e2] at dn;exact fun σ2 H2 F2 fr2 A2=>⟨ρ2,F2,fr.trans (frt.trans fr2),A2,DnS.shift (frt.trans fr2) dn⟩
   |cont ρ2=>rw[e2] at dn;exact fun σ2 H2 F2 fr2 A2=>⟨ρ2,F2,fr.trans (frt.trans fr2),A2,DnS.shift (frt.trans fr2) dn⟩
   |brk ρ2=>rw[e2] at dn;exact fun σ2 H2 F2 fr2 A2=>dn σ2 H2 F2 (frt.trans fr2) A2
   |ret y=>rw[e2] at dn;exact dn
   |exc q=>rw[e2] at dn;exact dn
   |bad=>rw[e2] at dn;exact dn
  |exc q=>rw[e] at dn;exact dn
  |bad=>rw[e] at dn;exact dn
theorem Zbj{c:TT}{fc:List PV->Rr Bool}(hc:DT K EX Γ Γ c fc)(hb:DS K EX Γ ⟨Γ,Γ,Γ,k⟩ t g):DS K EX Γ ⟨Γ,Γ2,Γ3,k⟩ (Zi3 c t) (fun ρ=>VY fc g ρ):=fun B H0 H σ ρ F D A d=>by
 dsimp only at d
 have ex:∃n,V2 fc g n ρ=some (VY fc g ρ):=by
  by_cases hx:∃n r,V2 fc g n ρ=some r
  ·obtain⟨n,r,e⟩:=hx
   exact⟨n,by rw[Zb0 e];exact e⟩
  ·unfold VY at d
   rw[dif_neg hx] at d
   exact d.elim
 obtain⟨n0,e0⟩:=ex
 generalize hr:VY fc g ρ=r at e0 d
 refine⟨fun m σ' H'=>∃ρ' F',Frm H F H' F'/\Ag K B H0 H' σ' Γ ρ' F' []/\V2 fc g m ρ'=some r,⟨n0,ρ,F,Frm.refl,A,e0⟩, ?_⟩
 rintro m σ' H' ⟨ρ',F',fr,A',e⟩
 cases m with
 |zero=>cases e
 |succ m =>
  unfold V2 at e
  refine hc B H0 H' σ' ρ' F' [] _ A' ?_
  cases e1:fc ρ' with
  |ok b =>
   rw[e1] at e
   refine fun H2 F2 s2 f2 A2=>?_
   have fr2:Frm H' F' H2 F2:=Frm.of s2 f2
   cases b with
   |true =>
    refine⟨fun σ3 H3=>∃ρ3 F3,Frm H F H3 F3/\Ag K B H0 H3 σ3 Γ ρ3 F3 []/\V2 fc g m ρ3=some r,fun σ3 H3 h=>⟨m,ZuD _,h⟩, ?_⟩
    refine hb B H0 H2 σ' ρ' F2 _ A2 ?_
    cases e2:g ρ' with
    |next ρ2=>rw[e2] at e;exact fun σ3 H3 F3 fr3 A3=>⟨ρ2,F3,fr.trans (fr2.trans fr3),A3,e⟩
    |cont ρ2=>rw[e2] at e;exact fun σ3 H3 F3 fr3 A3=>⟨ρ2,F3,fr.trans (fr2.trans fr3),A3,e⟩
    |brk ρ2 =>
     rw[e2] at e
     have e':RS.next ρ2=r:=Option.some.inj e
     rw[<- e'] at d
     exact fun σ3 H3 F3 fr3 A3=>d σ3 H3 F3 (fr.trans (fr2.trans fr3)) A3
    |ret y =>
     rw[e2] at e
     have e':RS.ret y=r:=Option.some.inj e
     rw[<- e'] at d
     exact d
    |exc q =>
     rw[e2] at e
     have e':RS.exc q=r:=Option.some.inj e
     rw[<- e'] at d
     exact d
    |bad =>
     rw[e2] at e
     have e':RS.bad=r:=Option.some.inj e
     rw[<- e'] at d
     exact d
   |false =>
    have e':RS.next ρ'=r:=Option.some.inj e
    rw[<- e'] at d
    exact d σ' H2 F2 (fr.trans fr2) A2
  |exc q =>
   rw[e1] at e
   have e':RS.exc q=r:=Option.some.inj e
   rw[<- e'] at d
   exact d
  |bad =>
   rw[e1] at e
   have e':RS.bad=r:=Option.some.inj e
   rw[<- e'] at d
   exact d
theorem Trees.get:∀{xs:List PV}{vs:List V}{G:List Addr}{j:Nat}{x:PV},Trees K H xs vs G->xs[j]?=some x->∃v G',vs[j]?=some v/\Jg K H x v G'/\∀a∈G',a∈G
 |[],_,_,_,_,_,e=>by simp at e
 |y::xs,_,_,0,x,h,e=>by
  obtain⟨v,r,G1,G2,rfl,h1,h2,h3,rfl⟩:=h
  simp at e;subst e
  exact⟨v,G1,rfl,h1,fun a ha=>by simp[ha]⟩
 |y::xs,_,_,j+1,x,h,e=>by
  obtain⟨v,r,G1,G2,rfl,h1,h2,h3,rfl⟩:=h
  obtain⟨w,G',e1,e2,e3⟩:=Trees.get (j:=j) h2 (by simpa using e)
  exact⟨w,G',by simpa using e1,e2,fun a ha=>by simp[e3 a ha]⟩
theorem ZgT{xs:List PV}{vs:List V}{G:List Addr}{i:Int}{z:PV}(h:Trees K H xs vs G)(e:atI xs i=some z):∃u G',atI vs i=some u/\Jg K H z u G'/\∀a∈G',a∈G:=by
 unfold atI at e ⊢
 rw[h.length]
 cases q:ixN xs.length i with
 |none=>rw[q] at e;cases e
 |some j=>rw[q] at e;exact h.get e
theorem Zic{i:Nat}{h:Int->Int->Int}(hm:Γ2[i]?=some .O)(hmΓ:Γ[i]?=some .O)(hi:DE K EX Γ Γ2 .A ti f)(he:DE K EX Γ2 Γ2 .A te fe) :
  DS K EX Γ ⟨Γ2,Γ1,Γ3,k⟩ (ZkV (Za9 i) ti te (Zlf K) (ipI h) Zj2) (fun ρ=>(f ρ).thenS fun j=>(pIx (gv i ρ) j).thenS fun z=>(asL (gv i ρ)).thenS fun _=>(fe ρ).thenS fun y=>(oI (fun _ _=>true) (fun a b=>.int (h a b)) z y).thenS fun w=>(pSet (gv i ρ) j w).thenS fun z=>.next (ρ.set i z)):=fun B H0 H σ ρ F D A d=>by
 obtain⟨v,h1,h2⟩:=A.getO hmΓ
 refine⟨v,h1,hi B H0 H σ ρ F [] _ A (d.thenS.imp (fun j _ d jv H1 s1 r1=>?_) fun e q=>q)⟩
 obtain⟨F1,f1,p1,A1⟩:=r1
 obtain⟨z,ez,d⟩:=Dn.pIx d.thenS
 obtain⟨xs,ex,d⟩:=Dn.asL d.thenS
 rw[ex] at ez
 obtain⟨v',h1',h2'⟩:=A1.getO hm
 rw[h1] at h1';cases h1'
 rw[show ρ.getD i .non=.lst xs from ex] at h2'
 obtain⟨a,vs,G,rfl,hH,ht,hn,hF⟩:=h2'
 obtain⟨j,rfl⟩:∃j',j=PV.int j':=by cases j<;>first|exact⟨_,rfl⟩|(simp only[pIx] at ez;cases ez;done)
 cases p1
 simp only[pIx] at ez
 cases e1:atI xs j with
 |none=>rw[e1] at ez;cases ez
 |some z' =>
  rw[e1] at ez;cases ez
  obtain⟨u,G2,e2,e3,e4⟩:=ZgT ht e1
  refine⟨a,vs,j,u,rfl,rfl,SqL.of hH,e2,he B H0 H1 σ ρ F1 [] _ A1 (d.thenS.imp (fun y _ d w H2 s2 r2=>?_) fun e q=>q)⟩
  obtain⟨F2,f2,p2,A2⟩:=r2
  obtain⟨zi,yi,rfl,rfl⟩:∃zi yi,z=PV.int zi/\y=PV.int yi:=by cases z<;>cases y<;>first|exact⟨_,_,rfl,rfl⟩|(exact d.elim;done)
  obtain⟨e5,_⟩:=e3
  subst e5
  cases p2
  refine⟨zi,yi,rfl,rfl, ?_⟩
  obtain⟨xs',jj,n,ex',e6,e7,d⟩:=Dn.pSet (show DnS _ _ _ _ _ _ _ _ ((pSet (gv i ρ) (.int j) (.int (h zi yi))).thenS _) from d).thenS
  cases e6
  rw[ex] at ex';cases ex'
  obtain⟨v',h1',h2'⟩:=A2.getO hm
  rw[h1] at h1';cases h1'
  rw[show ρ.getD i .non=.lst xs from ex] at h2'
  obtain⟨a',vs',G',e,hH',ht',hn',hF'⟩:=h2'
  cases e
  refine⟨a,vs',j,n,rfl,rfl,hH',by rw[ht'.length];exact e7, ?_⟩
  obtain⟨G'',g1,g2⟩:=Trees.setP (j:=n) (y:=.int (h zi yi)) (w:=.int (h zi yi)) ht' ⟨rfl,rfl⟩
  have haF:a∈F2 i:=by rw[hF'];simp
  have hsub:∀b∈a::G'',b∈F2 i:=fun b hb=>by
   rw[hF']
   rcases ZsT.mp hb with rfl|hb
   ·simp
   ·simp[g1 b hb]
  refine d σ _ (Ul F2 i (a::G'')) (QN (s1.trans s2) (fun j b hb=>f1 j b (f2 j b hb)) haF fun b hb=>.inr ⟨i,f1 i b (f2 i b (hsub b hb))⟩) (Ag.chg (G:=[]) A2 hm haF (fun b hb=>.inl (hsub b hb)) (by simp) ?_)
  exact⟨_,h1,a,_,G'',rfl,Z4,g2.put hH' (fun z=>hn' (g1 a z)),fun z=>hn' (g1 a z),rfl⟩
end
noncomputable def RS.out:RS->Rr PV
 |.next _=>.ok .non
 |.ret x=>.ok x
 |.exc e=>.exc e
 |.brk _=>.bad
 |.cont _=>.bad
 |.bad=>.bad
@[simp] theorem RS.out_next{ρ:List PV}:(RS.next ρ).out=.ok .non:=rfl
@[simp] theorem RS.out_ret{x:PV}:(RS.ret x).out=.ok x:=rfl
def Ref(r r':Rr PV):Prop:=r=.bad\/r=r'
structure Pm where
 α:Type
 enc:α->List PV
 pre:α->Prop
 out:α->Rr PV
open Classical in
noncomputable def Pm.fn(m:Pm)(xs:List PV):Rr PV:=if h:∃a,m.enc a=xs/\m.pre a then m.out h.choose else .bad
theorem Pm.fn_eq(m:Pm)(a:m.α)(h:m.pre a)(inj:∀b,m.enc b=m.enc a->m.out b=m.out a):m.fn (m.enc a)=m.out a:=by
 unfold Pm.fn
 have hx:∃b,m.enc b=m.enc a/\m.pre b:=⟨a,rfl,h⟩
 rw[dif_pos hx]
 exact inj _ hx.choose_spec.1
theorem Pm.ref(m:Pm){g:List PV->Rr PV}(h:∀a,m.pre a->g (m.enc a)=m.out a)(xs:List PV):Ref (m.fn xs) (g xs):=by
 unfold Pm.fn
 by_cases hx:∃a,m.enc a=xs/\m.pre a
 ·rw[dif_pos hx]
  have h2:=hx.choose_spec
  right
  have:=h _ h2.2
  rw[h2.1] at this
  exact this.symm
 ·rw[dif_neg hx];exact .inl rfl
section
variable {K:W.Frag}{B:Addr->Prop}{H:Hp}
theorem Ag.init{xs:List PV}{vs:List V}{n:Nat}(h:Reps K H B xs vs):Ag K (fun a=>B a\/H a=none) H H (vs.map some++List.replicate n none) (List.replicate xs.length .S++List.replicate n .U) (xs++List.replicate n .non) (fun _=>[]) []:=by
 refine⟨Z6.refl _,fun a h=>.inr h,by simp,by simp,by simp,by simp,by simp,by simp,by simp[h.length],by simp,fun i=>?_⟩
 by_cases hi:i<xs.length
 ·have e1:(List.replicate xs.length Md.S++List.replicate n Md.U).getD i .U=.S:=by
   rw[ZsG,ZsX (by simpa using hi),ZuE hi];rfl
  have e2:(xs++List.replicate n PV.non).getD i .non=xs[i]:=by
   rw[ZsG,ZsX hi,ZsH hi];rfl
  rw[e1,e2]
  obtain⟨v,h1,h2⟩:=h.get (ZsH hi)
  refine⟨rfl,v, ?_,Rep.mono (fun a us s r=>⟨r,.inl s,by simp,by simp⟩) (fun a us r=>r) h2⟩
  rw[ZsX (by rw[ZsI,h.length];exact hi),ZsM,h1];rfl
 ·have e1:(List.replicate xs.length Md.S++List.replicate n Md.U).getD i .U=.U:=by
   rw[ZsG,ZsU (by simpa using hi)]
   by_cases q:i-(List.replicate xs.length Md.S).length<n
   ·rw[ZuE q];rfl
   ·rw[Zti (by simpa using q)];rfl
  rw[e1]
  exact rfl
end
section
variable {P:Program}{w:World}{K:W.Frag}{mg:Str->Option Value}{base:Heap}
theorem Fun.okP{x qual:Str}{st:Stmt}{f:Addr}{fd:FuncData}{N ps:List Str}{k n l:Nat}{kd:Kd}{m:List PV->Rr PV}(F:Fun K x qual st f fd)(S:Zx N ps (Zn st))(hn:ps.length=n)(hl:N.length-n=l)(hbody:∀(cdv:Value) (A:Around) (outer:List Env) (s:Shared) (H:Hp) (E:XK),Uu k (A.deeper (envOfC qual (Zn st) s.heap.objs.size f cdv)) ->
   ∃t g Y,Y.r=kd/\PSs (Zip CX0 P w K mg base N qual (Zn st) f cdv A outer s H E).nox (Vd st) t/\DS K X0 (List.replicate n .S++List.replicate l .U) Y t g/\∀xs,Ref (m xs) (g (xs++List.replicate l .non)).out)(hkN:kd≠.N:=by nofun)(hkM:kd≠.M:=by nofun) :
  JB P w K mg base CX0 (k+1) f fd ps (spF K n kd W0 m):=by
 refine F.ok S (fun vs H Q E h=>?_) (fun cdv A outer s H vs Q E hr h=>?_)
 ·obtain⟨B,xs,h1,h2,_⟩:=h
  rw[h1.length,h2,hn]
 ·obtain⟨B,xs,h1,h2,dn⟩:=h
  obtain⟨t,g,Y,hY,ht,hd,href⟩:=hbody cdv A outer s H E hr
  refine⟨t,ht, ?_⟩
  have A0:=Ag.init (n:=l) h1
  have est:Uy N vs=vs.map some++List.replicate l none:=by
   unfold Uy
   rw[h1.length,h2,hl]
  rw[est]
  rw[h2] at A0
  refine hd _ H H _ _ _ _ A0 ?_
  have hdn:Dn (g (xs++List.replicate l .non)).out (fun x=>∀v H',Z6 H H'->Zjf K B H kd x v H'->Q v H') (fun e=>∀H',Z6 H H'->W0 e E H'):=by
   rcases href xs with e|e
   ·rw[e] at dn;exact dn.elim
   ·rw[<- e];exact dn
  have retK:∀{x v H'},Zjf K (fun a=>B a\/H a=none) H kd x v H'->Zjf K B H kd x v H':=fun {x v H'} h=>by
   cases kd with
   |P=>exact h
   |F=>exact h
   |T=>exact Rep.mono (fun a us s r=>⟨r,s.elim id .inr⟩) (fun a us r=>r) h
   |Z=>exact Rep.mono (fun a us s r=>⟨r,s.elim id .inr⟩) (fun a us r=>r) h
   |A=>exact Rep.mono (fun a us s r=>⟨r,s.elim id .inr⟩) (fun a us r=>r) h
   |N=>exact h
   |M=>exact h
  cases e:g (xs++List.replicate l .non) with
  |next ρ =>
   rw[e] at hdn
   refine fun σ' H' F' fr A'=>hdn .non H' A'.same ?_
   cases kd with
   |P=>exact⟨rfl,rfl⟩
   |F=>exact⟨[],⟨rfl,rfl⟩,by simp⟩
   |T=>exact rfl
   |Z=>exact rfl
   |A=>exact rfl
   |N=>exact absurd rfl hkN
   |M=>exact absurd rfl hkM
  |ret x=>rw[e] at hdn;exact fun v H' s r=>hdn v H' s (retK (hY▸r))
  |exc q=>rw[e] at hdn;exact fun H' s=>hdn H' s
  |brk ρ=>rw[e] at hdn;exact hdn.elim
  |cont ρ=>rw[e] at hdn;exact hdn.elim
  |bad=>rw[e] at hdn;exact hdn.elim
end
section
variable {K:W.Frag}{n:Nat}{m:List PV->Rr PV}{e:Expr}{ta:TA}{Γ Γ':List Md}{fa:List PV->Rr (List PV)}
theorem QU(hn:Len fa n)(ha:DAA K X0 Γ Γ' ta fa):DE K X0 Γ Γ' .F (Zak (spF K n .F W0 m) ta) (fun ρ=>(fa ρ).bind m):=Zik (E:=E0) (W:=W0) (fun σ H Q h=>h) (fun e H' h=>h) hn ha
theorem UZ(hn:Len fa n)(ha:DAA K X0 Γ Γ' ta fa):DE K X0 Γ Γ' .P (Zak (spF K n .P W0 m) ta) (fun ρ=>(fa ρ).bind m):=Zij (E:=E0) (W:=W0) (fun σ H Q h=>h) (fun e H' h=>h) hn ha
end
theorem Ze4{K:W.Frag}{H:Hp}{a:Addr}{ns:List Int}{m:List PV->Rr PV}(hm:m [.lst (ns.map PV.int)]=.ok (.bl true))(hS:SqL K H a (ns.map V.int)):spF K 1 .P W0 m [.ref a] H (fun v _=>v=.bl true) fun _ _ _=>False:=by
 refine⟨fun _=>True,[.lst (ns.map PV.int)],Reps.one ⟨a,_,rfl,hS.elim (fun h=>.inl ⟨h,trivial⟩) .inr,ZbS ns⟩,rfl, ?_⟩
 rw[hm]
 exact fun v H' _ r=>r.2
section
variable {X:Cx}{K:W.Frag}{EX:PX->Hp->Prop}{Γ Γ' Γ1 Γ2:List Md}{tb tc:TE}{ta:TA}{fb fc:List PV->Rr PV}{fa:List PV->Rr (List PV)}
theorem ZgA:bootBuiltins "max"=some (.builtin "max"):=by decide +kernel
noncomputable def Zhv(xs:List PV):Rr PV:=match xs with
 |[.int i,.int j]=>.ok (.int (if j>i then j else i))
 |_=>.bad
theorem Zgr(ha:DAA K EX Γ Γ' ta fa):DE K EX Γ Γ' .P (tCB (fun xs H Q=>∃i j,xs=[.int i,.int j]/\Q (.int (if j>i then j else i)) H) ta) (fun ρ=>(fa ρ).bind Zhv):=by
 refine ZcS (fun {H xs vs Q} h z e=>?_) (fun xs e h=>?_) ha
 ·unfold Zhv at e
  split at e<;>first|(cases e;done)|skip
  cases e
  obtain⟨v,w,rfl,h1,h2⟩:=Zjy h
  cases h1;cases h2
  exact⟨rfl,fun q=>⟨_,_,rfl,q _ rfl⟩⟩
 ·unfold Zhv at h;split at h<;>cases h
theorem ZjO(hu:X.A.units+64<cLine)(e:X.K=K:=by rfl):OpR X (compareOp .Lt) (Zj3 K HT.Z1):=by subst e;exact Zl2 (by omega)
noncomputable def ZjG(x y:PV):Rr PV:=match x,y with
 |.lst xs,.lst ys=>match Ub xs,Ub ys with
  |some ns,some ms=>.ok (.bl (HT.Z1 ns ms))
  |_,_=>.bad
 |_,_=>.bad
theorem Zmf(ha:DE K EX Γ Γ1 .A tb fb)(hb:DE K EX Γ1 Γ2 .A tc fc):DE K EX Γ Γ2 .P (tOp (Zj3 K HT.Z1) tb tc) (fun ρ=>(fb ρ).bind fun x=>(fc ρ).bind fun y=>ZjG x y):=by
 refine Zgp (fun {H x y v w Q} rx ry ⟨z,e,q⟩=>?_) (fun x y z h=>?_) (fun x y e h=>?_) ha hb
 ·unfold ZjG at e
  split at e
  ·split at e
   ·rename_i ns ms h1 h2
    cases e
    rw[UC h1] at rx
    rw[UC h2] at ry
    obtain⟨a,rfl,h3⟩:=Ql rx
    obtain⟨b,rfl,h4⟩:=Ql ry
    exact⟨a,b,ns,ms,rfl,rfl,h3,h4,q rfl _ rfl⟩
   ·cases e
  ·cases e
 ·unfold ZjG at h
  split at h
  ·split at h
   ·cases h;rfl
   ·cases h
  ·cases h
 ·unfold ZjG at h
  split at h
  ·split at h<;>cases h
  ·cases h
end
def RS.good(r:RS)(I:List PV->Prop):Prop:=match r with
 |.next ρ=>I ρ
 |.cont ρ=>I ρ
 |_=>False
theorem RS.good_ex{r:RS}{I:List PV->Prop}(h:r.good I):∃ρ',(r=.next ρ'\/r=.cont ρ')/\I ρ':=by
 cases r with
 |next ρ=>exact⟨ρ,.inl rfl,h⟩
 |cont ρ=>exact⟨ρ,.inr rfl,h⟩
 |ret x=>exact h.elim
 |brk ρ=>exact h.elim
 |exc e=>exact h.elim
 |bad=>exact h.elim
theorem ZdW{b:PV->List PV->RS}{xs:List PV}{ρ:List PV}(I:Nat->List PV->Prop)(h0:I 0 ρ)(h:∀i x ρ,xs[i]?=some x->I i ρ->(b x ρ).good (I (i+1))) :
  ∃ρ',QO b xs ρ=.next ρ'/\I xs.length ρ':=by
 have key:∀n i ρ,xs.length=i+n->I i ρ->∃ρ',QO b (xs.drop i) ρ=.next ρ'/\I xs.length ρ':=by
  intro n
  induction n with
  |zero =>
   intro i ρ hl hI
   rw[ZtM (by omega)]
   exact⟨ρ,rfl,by rw[hl];exact hI⟩
  |succ n ih =>
   intro i ρ hl hI
   have hi:i<xs.length:=by omega
   rw[Zte hi]
   obtain⟨ρ',h1,h2⟩:=RS.good_ex (h i _ ρ (ZsH hi) hI)
   obtain⟨ρ2,h3,h4⟩:=ih (i+1) ρ' (by omega) h2
   refine⟨ρ2, ?_,h4⟩
   simp only[QO]
   rcases h1 with h1|h1<;>(rw[h1];exact h3)
 exact key xs.length 0 ρ (by omega) h0
theorem JU{lo:Int}{n i:Nat}{x:PV}(h:(Zct lo n)[i]?=some x):i<n/\x=.int (lo+i):=by
 unfold Zct at h
 rw[ZsM] at h
 by_cases hi:i<n
 ·rw[Zt6 hi] at h;cases h;exact⟨hi,rfl⟩
 ·rw[Zti (by simpa using hi)] at h;cases h
@[simp] theorem Jh{lo:Int}{n:Nat}:(Zct lo n).length=n:=by simp[Zct]
theorem ZfI{α β:Type}{f:α->Rr β}{g:α->β}:∀{xs:List α},(∀x∈xs,f x=.ok (g x))->ZaV f xs=.ok (xs.map g)
 |[],_=>rfl
 |x::xs,h=>by
  simp only[ZaV,h x (by simp),Rr.bind_ok,ZfI (xs:=xs) fun y hy=>h y (by simp[hy]),ZsW]
@[simp] theorem Zkf{x:PV}{ρ:List PV}:gv 0 (x::ρ)=x:=rfl
@[simp] theorem Zkg{x:PV}{ρ:List PV}{i:Nat}:gv (i+1) (x::ρ)=gv i ρ:=rfl
theorem Qn{ns:List Int}{k:Int}(h0:0<=k)(h1:k<ns.length):pIx (.lst (ns.map PV.int)) (.int k)=.ok (.int (ns.getD k.toNat 0)):=by
 have:atI (ns.map PV.int) k=some (.int (ns.getD k.toNat 0)):=by
  unfold atI
  rw[ZsI,ZdT h0 h1]
  show (ns.map PV.int)[k.toNat]?=_
  rw[ZsM,ZsH (by omega),ZsG,ZsH (by omega)]
  rfl
 simp only[pIx,this]
theorem Q8{ns:List Int}{k y:Int}(h0:0<=k)(h1:k<ns.length):pSet (.lst (ns.map PV.int)) (.int k) (.int y)=.ok (.lst ((ns.set k.toNat y).map PV.int)):=by
 simp only[pSet,ZsI,ZdT h0 h1,List.map_set]
theorem ZbK{ns:List Int}{y:Int}(h:ns.length<1000000):pApp (.lst (ns.map PV.int)) (.int y)=.ok (.lst ((ns++[y]).map PV.int)):=by
 simp only[pApp,ZsI,if_pos h,Zty,ZsW,Zua]
theorem QC{ns:List Int}(h:ns.length<=1000000):newF (ns.map PV.int)=.ok (.lst (ns.map PV.int)):=by
 unfold newF
 rw[PV.flats_ints,ZsI,decide_eq_true h];rfl
theorem QV(ns:List Int):PV.dats (ns.map PV.int)=ns.map PyData.int:=by
 induction ns with
 |nil=>rfl
 |cons n ns ih=>simp[PV.dats,PV.dat,ih]
theorem ZcZ(ns:List Int):PyData.canLayAll0 (ns.map PyData.int)=true:=by
 induction ns with
 |nil=>rfl
 |cons n ns ih=>simp[PyData.canLayAll0,PyData.canLay0,ih]
theorem Zf8(i:Int):okD (.int i)=true:=by simp[okD,PV.noX,PV.dat,PyData.canLay0,PyData.depth]
theorem ZdI(ns:List Int):okD (.lst (ns.map PV.int))=true:=by
 have hd:PyData.depthAll (ns.map PyData.int)=0:=by
  induction ns with
  |nil=>rfl
  |cons n ns ih=>simp[PyData.depthAll,PyData.depth,ih]
 simp[okD,PV.noX,PV.noXs_ints,PV.dat,QV,PyData.canLay0,ZcZ,PyData.depth,hd]
theorem Ur:∀(ns ms:List Int),PyData.eqvAll (ns.map PyData.int) (ms.map PyData.int)=decide (ns=ms)
 |[],[]=>by simp[PyData.eqvAll]
 |[],m::ms=>by simp[PyData.eqvAll]
 |n::ns,[]=>by simp[PyData.eqvAll]
 |n::ns,m::ms=>by
  simp only[ZsW,PyData.eqvAll,PyData.eqv,Ur ns ms,List.cons.injEq,Bool.decide_and]
  rw[Bool.beq_eq_decide_eq]
theorem ZaN{g:Bool->Bool}(ns ms:List Int):Zac g (.lst (ns.map PV.int)) (.lst (ms.map PV.int))=.ok (.bl (g (decide (ns=ms)))):=by
 unfold Zac
 rw[ZdI,ZdI]
 simp only[Bool.and_self,if_true,PV.dat,QV,PyData.eqv,Ur]
theorem ZjL{g:Bool->Bool}(i j:Int):Zac g (.int i) (.int j)=.ok (.bl (g (decide (i=j)))):=by
 unfold Zac
 rw[Zf8,Zf8]
 simp only[Bool.and_self,if_true,PV.dat,PyData.eqv]
 rw[Bool.beq_eq_decide_eq]
theorem Zf0(ns:List Int):ZgL [.lst (ns.map PV.int)]=.ok (.int ns.length):=by simp[ZgL]
theorem Zfw(ns:List Int):ZmL [.lst (ns.map PV.int)]=.ok (.int ns.sum):=by simp[ZmL,ZbJ]
theorem Zew{ns:List Int}(h:ns.length<=1000000):ZbI [.lst (ns.map PV.int)]=.ok (.lst (ns.map PV.int)):=by
 simp only[ZbI];exact QC h
theorem Zk0{i j:Int}(a b:Nat)(h1:i.natAbs<=10^a)(h2:j.natAbs<=10^b)(ha:a<=4000:=by decide)(hb:b<=4000:=by decide):Zdi i j:=by
 have t:∀c:Nat,c<=4000->(10:Nat)^c<2^60000:=fun c hc=>ZtI (ZuH (by decide) hc) (by decide +kernel)
 exact⟨ZtI h1 (t a ha),ZtI h2 (t b hb)⟩
theorem Zg1{i j:Int}(b:Nat)(h1:0<j)(h2:j.natAbs<=10^b)(hb:b<=2000:=by decide):Zdj i j:=by
 have t:∀c:Nat,c<=2000->(10:Nat)^c<2^9000:=fun c hc=>ZtI (ZuH (by decide) hc) (by decide +kernel)
 exact⟨h1,ZtI h2 (t b hb)⟩
theorem Zf3{i j:Int}(h:Zdj i j):ZmQ (.int i) (.int j)=.ok (.int (i/j)):=ZbM (decide_eq_true h)
theorem ZcE{i j:Int}(h:Zdi i j):ZmM (.int i) (.int j)=.ok (.int (i*j)):=ZbM (decide_eq_true h)
theorem ZaL{i j:Int}(h:0<j):Zn6 (.int i) (.int j)=.ok (.int (i%j)):=ZbM (decide_eq_true h)
theorem ZcD{i j:Int}(h:ZkF i j):Zll (.int i) (.int j)=.ok (.int (i^j.toNat)):=ZbM (decide_eq_true h)
@[simp] theorem ZjN{i j:Int}:ZmR (.int i) (.int j)=.ok (.int (i+j)):=rfl
@[simp] theorem ZjE{i j:Int}:Zn4 (.int i) (.int j)=.ok (.int (i-j)):=rfl
@[simp] theorem Zln{i j:Int}:pLt (.int i) (.int j)=.ok (.bl (decide (i<j))):=rfl
@[simp] theorem Zlo{i j:Int}:pLe (.int i) (.int j)=.ok (.bl (decide (i<=j))):=rfl
@[simp] theorem Zlx{i j:Int}:pGt (.int i) (.int j)=.ok (.bl (decide (j<i))):=rfl
@[simp] theorem Zly{i j:Int}:pGe (.int i) (.int j)=.ok (.bl (decide (j<=i))):=rfl
@[simp] theorem Zkh{i:Int}:grd (.int i)=.ok (.int i):=rfl
@[simp] theorem Zmp{b:Bool}:asB (.bl b)=.ok b:=rfl
@[simp] theorem Zk3{xs:List PV}:asL (.lst xs)=.ok xs:=rfl
@[simp] theorem Zk4{i:Int}:asI (.int i)=.ok i:=rfl
@[simp] theorem Zlu{n:String}{x:Int}:Zlv n (.int x)=.ok (.bl (QJ (Vy (.int x)) n)):=rfl
@[simp] theorem Zlt{n:String}{x:List PV}:Zlv n (.lst x)=.ok (.bl (QJ (Vy (.lst x)) n)):=rfl
@[simp] theorem Zls{n:String}{x:List PV}:Zlv n (.tup x)=.ok (.bl (QJ (Vy (.tup x)) n)):=rfl
@[simp] theorem Zlq{x:PV}{xs:List PV}:pIx (.tup (x::xs)) (.int 0)=.ok x:=by simp[pIx,atI,ixN]
@[simp] theorem Zlp{x y:PV}{xs:List PV}:pIx (.tup (x::y::xs)) (.int 1)=.ok y:=by
 have:atI (x::y::xs) 1=some y:=by unfold atI;rw[ZdT (by omega) (by simp only[Ztq];omega)];rfl
 simp only[pIx,this]
theorem ZdC{j:Int}(h:-(2^62)<=j/\j<2^62):Zhs [.int j]=.ok (Zct 0 j.toNat):=by simp only[Zhs,okR,decide_eq_true h,if_true]
theorem Zhq{i j:Int}(h:-(2^62)<=i/\i<2^62)(h':-(2^62)<=j/\j<2^62):Zhr [.int i,.int j]=.ok (Zct i (j-i).toNat):=by simp only[Zhr,okR,decide_eq_true h,decide_eq_true h',Bool.and_self,if_true]
theorem QI{xs:List PV}(h:xs.length<=1000000):lenM xs=.ok ():=by simp only[lenM,if_pos h]
@[simp] theorem ZhM:QJ (Vy (.int i)) "int"=true:=rfl
@[simp] theorem ZhN:QJ (Vy (.int i)) "bool"=false:=rfl
@[simp] theorem ZhL:QJ (Vy (.lst xs)) "list"=true:=rfl
@[simp] theorem ZhK:QJ (Vy (.tup xs)) "tuple"=true:=rfl
theorem JT{I:List PV->Prop}{ρ:List PV}(h:I ρ):(RS.next ρ).good I:=h
theorem ZhR{h:PV->List PV->Rr (List PV)}{hs:List PV->List PV->Rr (List PV)}{x:PV}{xs ρ:List PV}:hdR h hs (x::xs) ρ=(h x ρ).bind fun ρ'=>hs xs ρ':=rfl
theorem Zh5{ρ:List PV}:Zn8 [] ρ=.ok ρ:=rfl
theorem ZM{ns ms:List Int}(e:ns.map PV.int=ms.map PV.int):ns=ms:=by
 have:=congrArg Ub e
 simpa using this
theorem Zez{i j:Int}(h0:0<j)(h1:j<1000000000000):ZmQ (.int i) (.int j)=.ok (.int (i/j)):=Zf3 (Zg1 12 h0 (by omega))
theorem ZmU:Zll (.int 10) (.int 60)=.ok (.int (10^60)):=by rw[ZcD (by decide)];rfl
theorem Zl5{xs:List PV}(h:xs.length<=1000):mkT xs=.ok (.tup xs):=if_pos h
theorem Zl6{xs:List PV}(h:xs.length<=1000):mkL xs=.ok (.lst xs):=if_pos h
section
end
end L2
namespace PySem.W
open PySem PySem.Spec PySem.Calls PyProof.Rows
section
end
end PySem.W
namespace L2
open PySem PySem.Spec PyProof.Rows
section
end
theorem Zf7{x:Str}(h:PyData.canLay0 (.str x)=true):okD (.str x)=true:=by simp[okD,PV.noX,PV.dat,PyData.depth,h]
theorem ZjJ{g:Bool->Bool}{a b:Str}(ha:PyData.canLay0 (.str a)=true)(hb:PyData.canLay0 (.str b)=true):Zac g (.str a) (.str b)=.ok (.bl (g (a==b))):=by
 unfold Zac
 rw[Zf7 ha,Zf7 hb]
 simp only[Bool.and_self,if_true,PV.dat,PyData.eqv]
section
end
theorem ZdU{ns ms:List Int}:ns.map PV.int=ms.map PV.int ↔ ns=ms:=⟨ZM,fun h=>by rw[h]⟩
theorem ZU{b:PV->List PV->RS}{xs:List PV}{ρ:List PV}{W:RS}(hw:QO b xs ρ=W)(I:Nat->List PV->Prop)(h0:I 0 ρ)(h:∀i x ρ,xs[i]?=some x->I i ρ->(b x ρ).good (I (i+1))) :
  ∃ρ',W=.next ρ'/\I xs.length ρ':=by
 obtain⟨ρ',h1,h2⟩:=ZdW I h0 h
 exact⟨ρ',hw.symm.trans h1,h2⟩
theorem Ug{c:List PV->Rr Bool}{b:List PV->RS}{ρ:List PV}{W:RS}(hw:VY c b ρ=W)(N:Nat)(I:Nat->List PV->Prop)(h0:I 0 ρ)(hs:∀i ρ,i<N->I i ρ->c ρ=.ok true/\(b ρ).good (I (i+1)))(he:∀ρ,I N ρ->c ρ=.ok false) :
  ∃ρ',W=.next ρ'/\I N ρ':=by
 subst hw
 have key:∀m i ρ,N=i+m->I i ρ->∃ρ',V2 c b (m+1) ρ=some (.next ρ')/\I N ρ':=by
  intro m
  induction m with
  |zero =>
   intro i ρ hl hI
   obtain rfl:N=i:=by omega
   refine⟨ρ, ?_,hI⟩
   unfold V2
   rw[he ρ hI]
  |succ m ih =>
   intro i ρ hl hI
   obtain⟨h1,h2⟩:=hs i ρ (by omega) hI
   obtain⟨ρ',h3,h4⟩:=RS.good_ex h2
   obtain⟨ρ2,h5,h6⟩:=ih (i+1) ρ' (by omega) h4
   refine⟨ρ2, ?_,h6⟩
   unfold V2
   rw[h1]
   rcases h3 with h3|h3<;>(rw[h3];exact h5)
 obtain⟨ρ',h1,h2⟩:=key N 0 ρ (by omega) h0
 exact⟨ρ',Zb0 h1,h2⟩
theorem Qp{f:PV->Rr PV}{g:Int->Int}{ns:List Int}(h:∀z∈ns,f (.int z)=.ok (.int (g z))):ZaV f (ns.map PV.int)=.ok ((ns.map g).map PV.int):=by
 induction ns with
 |nil=>rfl
 |cons n ns ih =>
  simp only[ZsW,ZaV,h n (by simp),Rr.bind_ok,ih fun z hz=>h z (by simp[hz])]
theorem ZfH{f:PV->Rr PV}{g:Int->Bool}{ns:List Int}(h:∀z∈ns,f (.int z)=.ok (.bl (g z))):ZaV f (ns.map PV.int)=.ok ((ns.map g).map PV.bl):=by
 induction ns with
 |nil=>rfl
 |cons n ns ih =>
  simp only[ZsW,ZaV,h n (by simp),Rr.bind_ok,ih fun z hz=>h z (by simp[hz])]
theorem ZjU{f:PV->Rr PV}{g:Nat->Int}{lo:Int}{n:Nat}(h:∀i,i<n->f (.int (lo+(i:Nat)))=.ok (.int (g i))):ZaV f (Zct lo n)=.ok (((List.range n).map g).map PV.int):=by
 unfold Zct
 have:∀l:List Nat,(∀i∈l,i<n)->ZaV f (l.map fun(k:Nat)=>PV.int (lo+(k:Int)))=.ok ((l.map g).map PV.int):=by
  intro l
  induction l with
  |nil=>intro _;rfl
  |cons a l ih =>
   intro hl
   simp only[ZsW,ZaV,h a (hl a (by simp)),Rr.bind_ok,ih fun i hi=>hl i (by simp[hi])]
 exact this _ fun i hi=>Ztv.mp hi
theorem Zh4(bs:List Bool):Zl0 [.lst (bs.map PV.bl)]=.ok (.bl (bs.all id)):=by simp only[Zl0,Zg8]
theorem ZgE{ns:List Int}{p:Int->Prop}[DecidablePred p]:(ns.map fun z=>decide (p z)).all id=decide (∀x∈ns,p x):=by
 rw[Bool.eq_iff_iff,Zt4,decide_eq_true_iff]
 simp
theorem Zmj{ns:List Int}{h:Int}(h0:0<=h):Zkz (ns.map PV.int) none (some h)=(ns.take h.toNat).map PV.int:=by
 unfold Zkz HT.sIx
 simp only[ZsI,Zuh,Nat.sub_zero]
 rw[if_neg (by omega),<- List.map_take]
 congr 1
 rw[List.take_eq_take_iff];omega
theorem Ziq{ns:List Int}{l:Int}(h0:0<=l):Zkz (ns.map PV.int) (some l) none=(ns.drop l.toNat).map PV.int:=by
 unfold Zkz HT.sIx
 simp only[ZsI]
 rw[if_neg (by omega),<- List.map_drop,<- List.map_take]
 congr 1
 rw[Ztn (by simp)]
 by_cases h:l.toNat<=ns.length
 ·rw[ZuM h]
 ·rw[ZtM (by omega),ZtM (by omega)]
theorem Zlm{i j:Int}(h1:-(10^80)<=i)(h2:i<=10^80)(h3:-(10^80)<=j)(h4:j<=10^80):ZmM (.int i) (.int j)=.ok (.int (i*j)):=ZcE (Zk0 80 80 (by omega) (by omega))
theorem Zfj{n:Nat}:List.replicate (n+1) PV.non=PV.non::List.replicate n PV.non:=rfl
theorem Zfi:List.replicate 0 PV.non=[]:=rfl
theorem ZjH{a b:PV}:ZgL [.tup [a,b]]=.ok (.int 2):=rfl
section
end
theorem ZhS{a:Str}{b:Int}:grd (.tup [.str a,.int b])=.ok (.tup [.str a,.int b]):=rfl
theorem ZhT{a b:Int}:grd (.tup [.int a,.int b])=.ok (.tup [.int a,.int b]):=rfl
theorem Zhy{g:Bool->Bool}{xs:List PV}:ZmN g (.lst xs)=.ok (.bl (g false)):=rfl
theorem ZjK{g:Bool->Bool}{ns:List Int}:Zac g (.lst (ns.map PV.int)) (.lst [])=.ok (.bl (g (decide (ns=[])))):=ZaN ns []
theorem Zlz{g:Bool->Bool}:Zac g (.lst []) (.lst [])=.ok (.bl (g true)):=ZaN [] []
section
variable {X:Cx}{pins:List (Addr×Obj)}{σ:St}{H:Hp}{s:Shared}{h':Heap}
theorem Inv.turned2{t':Nat}{it e:Addr}(I:Inv X pins σ H s)(k:∀b o,b≠e->b≠it->s.heap.get? b=some o->h'.get? b=some o)(f:∀b,b=e\/b=it->H b=none/\b≠X.env.locals/\(b∈X.ex\/X.s₀.heap.objs.size<=b)/\(∀x c,X.env.cells.lookup x=some c->c≠b)/\∀p∈X.pn++pins,p.1≠b):Inv X pins σ H { s with heap:=h',toks:=t' }:=by
 have nit:∀b u,H b=some u->b≠e/\b≠it:=fun b u q=>by
  refine⟨fun z=>?_,fun z=>?_⟩
  ·rw[z,(f e (.inl rfl)).1] at q;cases q
  ·rw[z,(f it (.inr rfl)).1] at q;cases q
 refine I.step (g':=s.gens) (d':=s.drawn) (ch:=[e,it]) (fun b hb=>?_) (fun b o _ _ hc q _=>k b o (fun z=>hc (by simp[z])) (fun z=>hc (by simp[z])) q) (fun b o _ _ hc q _=>⟨o.slots,k b o (fun z=>hc (by simp[z])) (fun z=>hc (by simp[z])) q⟩) (fun _ _ _ _ n=>n)
  (fun b o hc q=>⟨o,k b o (fun z=>hc (by simp[z])) (fun z=>hc (by simp[z])) q⟩) (fun _ _ q=>q) (fun _ _ _ q=>q) (fun b ps w q=>q) (fun m hm=>?_) (fun b u q=>?_) I.bare
 ·obtain⟨g0,g1,g2,g3,g4⟩:=f b (by simpa using hb)
  exact⟨g2,g1,g3,g4⟩
 ·obtain⟨o,es,ep,ho,r⟩:=hm
  exact⟨o,es,ep,k _ o (Ne.symm (f e (.inl rfl)).2.1) (Ne.symm (f it (.inr rfl)).2.1) ho,r⟩
 ·refine(I.hok b u q).stay (fun c v hc q2=>?_) (fun _ q2=>q2) fun _ _ q2=>q2
  have:c≠e/\c≠it:=by
   rcases hc with z|z
   ·rw[z];exact nit b u q
   ·exact nit c _ z
  exact k c v this.1 this.2 q2
theorem Inv.adoptT{D:Addr}{ys:List V}{its:List Value}(I:Inv X pins σ H s)(hn:H D=none)(h1:X.s₀.heap.objs.size<=D)(hL:D≠X.env.locals)(hc:∀x c,X.env.cells.lookup x=some c->c≠D)(hp:∀p∈X.pn++pins,p.1≠D)(ho:s.heap.get? D=some { cls:=.type "tuple",data:=.seq its.toArray })(r:ZY ys its)(hz:ys.length<=sizeLine):Inv X pins σ (upd H D (.tup ys)) s:=by
 refine I.step (h':=s.heap) (g':=s.gens) (d':=s.drawn) (t':=s.toks) (ch:=[D]) (fun b hb=>?_) (fun b o _ _ _ e _=>e) (fun b o _ _ _ e _=>⟨o.slots,e⟩) (fun b o hb _ e=>?_) (fun b o _ e=>⟨o,e⟩)
  (fun b xs e=>?_) (fun b o u e=>?_) (fun b ps w e=>?_) (fun m hm=>hm) (fun b u e=>?_) I.bare
 ·have e:b=D:=by simpa using hb
  subst e
  exact⟨.inr h1,hL,hc,hp⟩
 ·rw[Zy (by simpa using hb)];exact e
 ·rw[Zy (ZB e hn)];exact e
 ·rw[Zy (ZB e hn)];exact e
 ·rw[Zy (ZB e hn)];exact e
 ·by_cases hb:b=D
  ·subst hb
   rw[Z4] at e;cases e
   exact⟨hz,its,r,_,ho,rfl,_,rfl⟩
  ·rw[Zy hb] at e
   exact(I.hok b u e).stay (fun c v _ q=>q) (fun c q=>by rw[Zy (ZB q hn)];exact q) fun c xs q=>by rw[Zy (ZB q hn)];exact q
end
noncomputable def Ite(K:W.Frag)(a:Addr):It:=
 ⟨fun i H=>∃xs x,SqL K H a xs/\xs[i]?=some x,fun i H v H'=>∃t x,v=.ref t/\H t=none/\H'=upd H t (.tup [.int i,x])/\∀xs,SqL K H a xs->xs[i]?=some x,fun i H=>∃xs,SqL K H a xs/\xs.length<=i⟩
theorem ZeS{P:Program}{w:World}{K:W.Frag}{elts:List Expr}{x1:Nat}{tpos:Pos}(a e it:Addr)(hne:e≠it):ZkD P w K (.Tuple elts x1 tpos) (Ite K a) [e,it] e (fun i h=>∃old,IsEnum h e it i old/\h.IsListIter it a i) where
 mem:=by simp
 obj:=fun i h ⟨old,s1,s2⟩ b hb=>by
  rcases ZsT.mp hb with z|z
  ·subst z
   exact⟨_,s1,fun v z=>by
    have z':Data.fields _=Data.cell v:=z
    cases z'⟩
  ·have z:b=it:=by simpa using z
   subst z
   obtain⟨o,e,c,d⟩:=s2
   exact⟨o,e,fun v z=>by rw[d] at z;cases z⟩
 keep:=fun i h h' ⟨old,s1,s2⟩ k=>⟨old,k e (by simp) _ s1,s2.at fun o q=>k it (by simp) o q⟩
 item:=by
  intro X hP hw hK hc i pins s σ H E I hf ⟨old,s1,s2⟩ hg
  subst hP hw hK
  obtain⟨xs,x,hq,hx⟩:=hg
  obtain⟨its,rv,p,hz⟩:=I.list hq
  obtain⟨u,hu,ru⟩:=rv.get hx
  have fz:∀b,b=e\/b=it->H b=none/\b≠X.env.locals/\(b∈X.ex\/X.s₀.heap.objs.size<=b)/\(∀x c,X.env.cells.lookup x=some c->c≠b)/\∀p∈X.pn++pins,p.1≠b:=fun b hb=>by
   obtain⟨f0,f1,f2,f3,f4,f5⟩:=hf b (by simpa using hb)
   exact⟨f0,f1,f3,f4,f5⟩
  refine wpAny_pyNext_enum_item s1 s2 p.isList (x:=u) (by simpa using hu) hne fun h1 e1 i1 t1 z1 k1=>?_
  refine⟨_,rfl, ?_⟩
  refine wpAny_letOwnedTupleGo_enum e1 fun h2 e2 sb2=>?_
  have I2:Inv X pins σ H { s with heap:=h2,toks:=s.toks+1 }:=I.turned2 (fun b o n1 n2 q=>sb2.extBut b o n1 (k1 b o n1 n2 q)) fz
  have hfr:=I.hok.fresh (ZsN s.heap.objs.size)
  have het:s.heap.objs.size≠e:=ZuA (Heap.lt_size s1)
  have fsz:=I.fpOk (H':=H) (ZsN s.heap.objs.size) hfr
  obtain⟨g0,g1,g2,g3,g4,g5⟩:=fsz
  have I3:=I2.adoptT (D:=s.heap.objs.size) (ys:=[.int i,x]) (its:=[.int i s.toks,u]) hfr I.sz g1 g4 g5 (sb2.extBut _ _ het t1) (.cons ⟨_,rfl⟩ (.cons ru .nil)) (show 2<=sizeLine by decide)
  refine⟨.ref s.heap.objs.size,_,I3,rfl,⟨_,x,rfl,hfr,rfl,fun ys hy=>by rw[I.list_inj hy hq];exact hx⟩,⟨u,by
   have:((i+1:Nat):Int)=(i:Int)+1:=by omega
   rw[this];exact e2,i1.extBut sb2.extBut (Ne.symm hne)⟩,fun b hb=>?_⟩
  have hbn:b≠s.heap.objs.size:=by
   rcases ZsT.mp hb with z|z
   ·rw[z];exact het.symm
   ·have z:b=it:=by simpa using z
    obtain⟨o,q,_⟩:=s2
    rw[z];exact Ztm (Heap.lt_size q)
  rw[Zy hbn]
  exact(hf b hb).1
 done:=by
  intro X hP hw hK hc i pins s σ H E I hf ⟨old,s1,s2⟩ hg
  subst hP hw hK
  obtain⟨xs,hq,hx⟩:=hg
  obtain⟨its,rv,p,hz⟩:=I.list hq
  obtain⟨f0,f1,f2,f3,f4,f5⟩:=hf it (by simp)
  have hl:=rv.length
  exact wpAny_pyNext_enum_end (I.ok.hd hc) s1 s2 p.isList (by simp;omega) fun h' eb=>⟨rfl,I.turned (t':=s.toks) (fun b o hb q=>eb b o hb q) f0 f1 f3 f4 f5⟩
 self:=fun _ _ _ _ _ ⟨old,st,_⟩ h=>wpAny_pyIter_enum st h
section
variable {X:Cx}{elts:List Expr}{x1:Nat}{tpos:Pos}
noncomputable def Zke(K:W.Frag)(tl:TA):TI:=fun σ H R=>tl σ H fun vs H1=>∃a,vs=[.ref a]/\(∃xs,SqL K H1 a xs)/\R (Ite K a) H1
theorem Zcl:bootBuiltins "enumerate"=some (.type "enumerate"):=by decide +kernel
theorem Zj9{l:Expr}{tl:TA}{p pos:Pos}(hg:Gl X "enumerate")(hm:X.mg "enumerate"=none)(ha:PA X [l] tl)(hs:starEach [l] X.env=[(false,eval l X.env)]:=by rfl):PI X (.Tuple elts x1 tpos) (.Call (.Name "enumerate" p) [l] [] pos) (Zke X.K tl):=by
 intro pins s σ H R I h
 refine Call_ (UX I hg hm Zcl (PyProof.Rows.callWith_type1 (thn (ha pos pins s σ H _ I h) fun us s1 ⟨vs,H1,I1,r1,q1⟩=>?_) hs rfl))
 obtain⟨a,e,⟨xs,hq⟩,q⟩:=q1
 subst e
 cases r1 with
 |cons r rr =>
  cases rr
  cases r
  obtain⟨its,rv,pl,hz⟩:=I1.list hq
  refine call_enumerate_list pl.isList fun h' e1 i1 z1 k1=>?_
  refine wpAny_pyIter_enum e1 ?_
  have I2:Inv X pins σ H1 { s1 with heap:=h' }:=I1.kept (t':=s1.toks) k1
  refine⟨s1.heap.objs.size+1,[s1.heap.objs.size+1,s1.heap.objs.size],_,_,H1,rfl,I2,ZeS a _ _ (Nat.succ_ne_self _),⟨_,e1,i1⟩,fun b hb=>?_,q⟩
  have hb':s1.heap.objs.size<=b:=by
   rcases ZsT.mp hb with z|z
   ·rw[z];exact ZuN _
   ·have z:b=s1.heap.objs.size:=by simpa using z
    rw[z];exact ZsN _
  exact I1.fpOk hb' (I1.hok.fresh hb')
theorem Zhl{K:W.Frag}{l:Expr}{tl:TA}{p pos:Pos}(hg:Gl X "enumerate")(hm:X.mg "enumerate"=none)(ha:PA X [l] tl)(hs:starEach [l] X.env=[(false,eval l X.env)]:=by rfl)(e:X.K=K:=by rfl):PI X (.Tuple elts x1 tpos) (.Call (.Name "enumerate" p) [l] [] pos) (Zke K tl):=by subst e;exact Zj9 hg hm ha hs
end
noncomputable def Zag(xs:List PV):List PV:=xs.mapIdx fun i x=>.tup [.int (i:Nat),x]
section
variable {K:W.Frag}{H:Hp}{EX:PX->Hp->Prop}{Γ Γ':List Md}
theorem ZhJ{a:Addr}{xs:List PV}{S:Addr->Prop}(h:Rep K H S (.lst xs) (.ref a)):ItP K S (Ite K a) (Zag xs) H:=by
 obtain⟨a',vs,e,hn,hr⟩:=h
 cases e
 intro i
 constructor
 ·intro x hx
  unfold Zag at hx
  rw[ZuI] at hx
  cases hxi:xs[i]? with
  |none=>rw[hxi] at hx;cases hx
  |some y =>
   rw[hxi] at hx
   cases hx
   obtain⟨u,e1,e2⟩:=hr.get hxi
   refine⟨⟨vs,u,JC hn,e1⟩,fun v H' ⟨t,z,e3,e4,e5,e6⟩=>?_⟩
   have:=e6 vs (JC hn)
   rw[e1] at this;cases this
   subst e3 e5
   have sm:Z6 H (upd H t (.tup [.int i,u])):=Z6.upd (Z6.refl H) e4
   exact⟨sm,t,_,rfl,⟨Z4,trivial⟩,⟨_,_,rfl,rfl,_,_,rfl,e2.same sm,rfl⟩⟩
 ·intro hx
  unfold Zag at hx
  rw[ZuI] at hx
  have:xs[i]?=none:=by cases hxi:xs[i]? with
   |none=>rfl
   |some y=>rw[hxi] at hx;cases hx
  exact⟨vs,JC hn,by rw[hr.length];exact Zt1.mp this⟩
noncomputable def ZjM(xs:List PV):Rr (List PV):=match xs with
 |[.lst ys]=>.ok (Zag ys)
 |_=>.bad
theorem Zks{ta:TA}{fa:List PV->Rr (List PV)}(ha:DAZ K EX Γ Γ' ta fa):DI K EX Γ Γ' (Zke K ta) (fun ρ=>(fa ρ).bind ZjM):=fun B H0 H σ ρ F R Q A d=>by
 refine ha B H0 H σ ρ F R _ A (d.bind.imp (fun xs _ d vs H1 F1 s1 f1 p1 A1=>?_) fun e q=>q)
 unfold ZjM at d
 split at d
 ·rename_i ys
  obtain⟨v,rfl,h1⟩:=VX p1
  obtain⟨a,us,rfl,hn,hr⟩:=id h1
  exact⟨a,rfl,⟨us,JC hn⟩,d _ H1 F1 s1 f1 A1 fun H2 F2 h=>ZhJ (h1.frm h A1)⟩
 ·exact d.elim
theorem Zh0{ys:List PV}:ZjM [.lst ys]=.ok (Zag ys):=rfl
theorem ZcO(xs:List PV):(Zag xs).length=xs.length:=by simp[Zag]
variable {prog:Program}{w:World}{A:Around}{R:Result->Shared->Prop}{s:Shared}
theorem Ut{elt target iter:Expr}{ifs:List Expr}{scope:Scope}{pos:Pos}{it acc:Value}{env:Env}(I:Nat->Shared->Prop)(turn:∀n s,I n s->wpAny (model prog w) A (pyNext it) (fun r s₁=>match r with
   |none=>R (.ok .next) s₁
   |some v=>wpAny (model prog w) A (letOwnedTupleGo target it v) (fun _ s₁'=>wpAny (model prog w) A (assign target env v) (fun _ s₂ =>
     wpAny (model prog w) A (forIn ifs true fun c r=>if r=true then do let ok <- isTrue c env (eval c env);pure (ForInStep.yield ok) else pure (ForInStep.yield r)) (fun ok s₃ =>
      if ok=true then wpAny (model prog w) A (eval elt env) (fun x s₄ =>
       wpAny (model prog w) A (call (.builtin "list.append") [acc,x]) (fun _ s₅=>∃m,m<n/\I m s₅) (notedBy (model prog w) A env fun e s'=>R (.error e) s') s₄) (notedBy (model prog w) A env fun e s'=>R (.error e) s') s₃
      else ∃m,m<n/\I m s₃) (notedBy (model prog w) A env fun e s'=>R (.error e) s') s₂) (notedBy (model prog w) A env fun e s'=>R (.error e) s') s₁') (notedBy (model prog w) A env fun e s'=>R (.error e) s') s₁) (notedBy (model prog w) A env fun e s'=>R (.error e) s') s)(n:Nat)(h:I n s) :
  codeAny (model prog w) A (.compLoop (.ListComp elt [⟨target,iter,ifs,0⟩] scope pos) 0 it acc env) R s:=by
 refine codeAny_loop rfl I (fun n s hI=>?_) n h
 show wpAny _ A ((compTurn (.ListComp elt [⟨target,iter,ifs,0⟩] scope pos) 0 it acc env).onRaise (fun x=>do noteFrame x env;theTreesLotGoes x)) _ _ s
 refine wpAny_noted ?_
 rw[compTurn_list]
 refine wpAny_bind (wpAny_standAt (wpAny_bind (wpAny_mono (turn n s hI) (fun r s₁ h₁=>?_) fun _ _ h'=>h')))
 cases r with
 |none=>exact wpAny_pure h₁
 |some v =>
  refine wpAny_bind (wpAny_mono h₁ (fun _ s₁' h₁'=>?_) fun _ _ h'=>h')
  refine wpAny_bind (wpAny_mono h₁' (fun _ s₂ h₂=>wpAny_bind (wpAny_mono h₂ (fun ok s₃ h₃=>?_) fun _ _ h'=>h')) fun _ _ h'=>h')
  cases ok with
  |false=>exact wpAny_pure ⟨rfl,h₃⟩
  |true =>
   exact wpAny_bind (wpAny_bind (wpAny_mono h₃ (fun x s₄ h₄=>wpAny_bind (wpAny_mono h₄ (fun _ s₅ h₅=>wpAny_pure (wpAny_pure ⟨rfl,h₅⟩)) fun _ _ h'=>h')) fun _ _ h'=>h'))
end
noncomputable def Zbc(xs:List Str)(y:Str):Str:=if xs.contains y then "" else y
noncomputable def Uf(X:Cx)(scope:Scope)(xs:List Str)(C:Addr)(ex:List Addr)(s₂:Shared)(H₂:Hp):Cx:=
 { X with N:=X.N.map (Zbc xs)++xs,s₀:=s₂,H₀:=H₂,env:=compEnvC scope (Zai scope X.env) C X.env,outer:=X.stack,ex:=ex,fn:=fun _=>false,pn:=[],xe:=fun _ _=>False }
noncomputable abbrev TB:=V->Hp->List V->Prop
noncomputable def tB1:TB:=fun x _ vs=>vs=[x]
noncomputable def tB2(K:W.Frag):TB:=fun x H vs=>∃t a b,x=.ref t/\SqT K H t [a,b]/\vs=[a,b]
def PB(X:Cx)(scope:Scope)(xs:List Str)(tg:Expr)(Bd:TB):Prop:=∀C s₂ H₂ ex,∀(pins:List (Addr×Obj)) (s:Shared) (σ σx:St) (H:Hp) (x:V) (u:Value) (vs:List V) (E:Value->Shared->Prop),σ.length=X.N.length->σx.length=xs.length ->
 Inv (Uf X scope xs C ex s₂ H₂) pins (σ++σx) H s->Jo x u->Bd x H vs->wpAny (model X.prog X.w) X.A (assign tg (Uf X scope xs C ex s₂ H₂).env u) (fun _ s'=>Inv (Uf X scope xs C ex s₂ H₂) pins (σ++vs.map some) H s') E s
def PCi(X:Cx)(ifs:List Expr)(t:TT):Prop:=∀(pins:List (Addr×Obj)) (s:Shared) (σ:St) (H:Hp) (Q:Bool->Hp->Prop) (E:Value->Shared->Prop),Inv X pins σ H s->t σ H Q ->
 wpAny (model X.prog X.w) X.A (forIn ifs true fun c r=>if r=true then do let ok <- isTrue c X.env (eval c X.env);pure (ForInStep.yield ok) else pure (ForInStep.yield r)) (TP X pins σ Q) E s
noncomputable def ZkN:TT:=fun _ H Q=>Q true H
theorem Zaq{X:Cx}:PCi X [] ZkN:=fun pins s σ H Q E I h=>wpAny_tests_nil ⟨_,I,h⟩
def ZeZ(σ:St)(Bd:TB)(tt:TT)(te:TE)(J:It)(H1:Hp)(Q:VK):Prop:=∃W:Nat->Nat->List V->Hp->Prop,(∃m,W 0 m [] H1)/\∀i m ys H2,W i m ys H2->ys.length<=sizeLine /\
 ((J.stop i H2/\∀p,H2 p=none->Q (.ref p) (upd H2 p (.lst ys))) \/
  (J.go i H2/\∃N:List V->Hp->Prop,(∀ys' H',N ys' H'->∃m',m'<m/\W (i+1) m' ys' H')/\∀x H3,J.yld i H2 x H3->∃vs,Bd x H3 vs/\tt (σ++vs.map some) H3 fun b H4=>if b=true then te (σ++vs.map some) H4 fun y H5=>N (ys++[y]) H5 else N ys H4))
noncomputable def Q1(wi:TI)(Bd:TB)(tt:TT)(te:TE):TE:=fun σ H Q=>wi σ H fun J H1=>ZeZ σ Bd tt te J H1 Q
noncomputable def JE(N:List Str)(sc scope:Scope)(xs:List Str):Bool:=xs.all (fun x=>ZcV [] sc scope x)&&decide (N.map (Zbc xs)++xs).Nodup&&!xs.isEmpty&&(N.all fun y=>xs.contains y || !(scope.names.lookup y==some .local))&&(scope.names.lookup (Str.ofString "")==none)
structure CkN(N:List Str)(sc scope:Scope)(xs:List Str):Prop where
 scs:∀x∈xs,Za4 [] sc scope x
 nd:(N.map (Zbc xs)++xs).Nodup
 ex:∃x,x∈xs
 noN:∀y∈N,y ∉ xs->scope.names.lookup y≠some .local
 noE:scope.names.lookup (Str.ofString "")=none
theorem Vv{N:List Str}{sc scope:Scope}{xs:List Str}(h:JE N sc scope xs=true):CkN N sc scope xs:=by
 unfold JE at h
 simp only[Bool.and_eq_true,Zt4,decide_eq_true_eq,Bool.not_eq_true',Bool.or_eq_true,beq_iff_eq,beq_eq_false_iff_ne] at h
 obtain⟨⟨⟨⟨h1,h2⟩,h3⟩,h4⟩,h5⟩:=h
 refine⟨fun x hx=>Za4.of (h1 x hx),h2, ?_,fun y hy hn=>?_,h5⟩
 ·cases xs with
  |nil=>simp at h3
  |cons a l=>exact⟨a,by simp⟩
 ·rcases h4 y hy with z|z
  ·exact absurd (Zum.mp z) hn
  ·exact z
section
variable {X:Cx}{pins:List (Addr×Obj)}{σ:St}{s₂:Shared}{H₂:Hp}{scope:Scope}{x:Str}{xs:List Str}{tg elt iter:Expr}{ifs:List Expr}{pos:Pos}{Bd:TB}{tt:TT}{te:TE}{J:It}{fp:List Addr}{it:Addr}{tn:Nat->Heap->Prop}
theorem J0{N0:List Str}(sc:Za4 N0 X.env.scope scope x)(ok:X.Ok){y:Str}{c:Addr}(h:(Zai scope X.env).lookup y=some c):X.env.cells.lookup y=some c:=by
 have hm:=PySem.mem_of_lookup h
 unfold Zai at hm
 obtain⟨p,hp,e⟩:=ZsV.mp hm
 have hp':=Zt7.mp (Zva.mp hp)
 obtain⟨e1,e2⟩:=Prod.mk.inj e
 have hk:=sc.fr p hp'.1 (beq_iff_eq.mp hp'.2)
 obtain⟨c',hc'⟩:=ok.has p.1 hk
 rw[hc'] at e2
 rw[<- e1,hc']
 exact congrArg some e2
theorem Zk1{N0:List Str}(I:Inv X pins σ H₂ s₂)(sc:Za4 N0 X.env.scope scope x){C:Addr}(hC:s₂.heap.objs.size<=C)(ff:∀b∈fp,ZgG X pins H₂ b)(fo:∀b∈fp,∃o,s₂.heap.get? b=some o):(Uf X scope xs C fp s₂ H₂).Ok where
 mod:=I.ok.mod
 kind:=sc.kind
 glob:=I.ok.glob
 blt:=I.ok.blt
 above:=hC
 inj:=fun y z c h1 h2=>I.ok.inj y z c (J0 sc I.ok h1) (J0 sc I.ok h2)
 has:=fun y hy=>by
  have hy':(relabel scope X.env).names.lookup y=some .cell\/(relabel scope X.env).names.lookup y=some .free:=hy
  have hf:scope.names.lookup y=some .free:=by
   rcases hy' with z|z
   ·exact(ZS sc.nc z).2 (.inl rfl)
   ·exact(ZS sc.nc z).2 (.inr rfl)
  exact Qt hf
 cab:=fun y c h=>by cases h
 hd:=I.ok.hd
 frames:=I.ok.frames
 stk:=.inl rfl
 exf:=fun b hb=>by
  obtain⟨f0,f1,f2,f3,f4,f5⟩:=ff b hb
  obtain⟨o,ho⟩:=fo b hb
  exact⟨Ztm (Ztb (Heap.lt_size ho) hC),fun y c h=>f4 y c (J0 sc I.ok h)⟩
 bs:=I.bs
 bsz:=Zth I.ok.bsz I.sz
 noex:=fun b o e hb=>by
  obtain⟨f0,f1,f2,f3,f4,f5⟩:=ff b hb
  rcases f3 with z|z
  ·exact I.ok.noex b o e z
  ·exact absurd (Ztb (Heap.lt_size e) (Zth I.ok.bsz z)) (ZtG _)
 exfs:=fun b hb z=>by
  obtain⟨f0,f1,f2,f3,f4,f5⟩:=ff b hb
  rcases ZsT.mp (I.stkSub b z) with e|e
  ·exact f1 e
  ·exact f2 e
 funs:=I.stack
 frf:=I.stkFree
 tab:=fun f c P h1=>I.base.tbls _ _ _ (I.ok.tab f c P h1)
theorem Zcg{E:Value->Shared->Prop}{Q:VK}{RR:Value->Addr->Result->Shared->Prop}(I:Inv X pins σ H₂ s₂)(ck:CkN X.N X.env.scope scope xs)(hx:x∈xs)(hNd:X.N.Nodup)(hc:X.calm=true)(T:ZkD X.prog X.w X.K tg J fp it tn)(st:tn 0 s₂.heap)(ff:∀b∈fp,ZgG X pins H₂ b)(hw:ZeZ σ Bd tt te J H₂ Q)(hb:PB X scope xs tg Bd)(ht:∀C s₂ H₂ ex,PCi (Uf X scope xs C ex s₂ H₂) ifs tt)(he:∀C s₂ H₂ ex,PE (Uf X scope xs C ex s₂ H₂) elt te)(hvs:∀x H vs,Bd x H vs->vs.length=xs.length)(hRR:∀D C s' H' m',s₂.heap.objs.size<=C->Inv X pins σ H' s'->s'.heap.Ns C m'->H' C=none->Q (.ref D) H'->RR (.ref D) C (.ok .next) s') :
  wpAny (model X.prog X.w) X.A (newList []) (fun acc s₃=>wpAny (model X.prog X.w) X.A (newFunctionEnv scope X.env.globals (Zai scope X.env) [] X.env.qual none .none (some X.env)) (fun cenv s₄ =>
   codeAny (model X.prog X.w) X.A (.compStart (.ListComp elt [⟨tg,iter,ifs,0⟩] scope pos) 0 (.ref it) acc { cenv with scope:=relabel scope X.env }) (RR acc cenv.locals) s₄) E s₃) E s₂:=by
 have sc:=ck.scs x hx
 refine wpAny_newObj_type (wpAny_newFunctionEnv sc.nc (by intro y hy;simp at hy) (fun h₁ hns₁ hsb₁=>?_) sc.kind)
 dsimp only at hns₁ hsb₁ ⊢
 generalize hP2:s₂.heap.push { cls:=.type "list",dict:=none,data:=.seq ([]:List Value).toArray }=P2 at hns₁ hsb₁ ⊢
 have hCs:P2.objs.size=s₂.heap.objs.size+1:=by rw[<- hP2,Heap.size_push]
 have hCle:s₂.heap.objs.size<=P2.objs.size:=by rw[hCs];exact ZuN _
 have hDC:s₂.heap.objs.size≠P2.objs.size:=by rw[hCs];exact Ztm (ZuD _)
 generalize hCe:P2.objs.size=C at hns₁ hsb₁ hCs hCle hDC ⊢
 generalize hDe:s₂.heap.objs.size=D at hCs hCle hDC ⊢
 have fo:∀b∈fp,∃o,s₂.heap.get? b=some o:=fun b hb=>let ⟨o,e,_⟩:=T.obj _ _ st b hb;⟨o,e⟩
 have flt:∀b∈fp,b<D:=fun b hb=>by obtain⟨o,e⟩:=fo b hb;rw[<- hDe];exact Heap.lt_size e
 have old:∀b o,s₂.heap.get? b=some o->h₁.get? b=some o:=fun b o e=>by
  have hb:=Heap.lt_size e
  exact hsb₁.extBut b o (Ztm (by rw[hCs];exact ZuY (hDe▸hb))) (Heap.get?_push_of_some _ (hP2▸Heap.get?_push_of_some _ e))
 have hacc:h₁.get? D=some { cls:=.type "list",data:=.seq ([]:List Value).toArray 0 }:=hsb₁.extBut _ _ hDC (Heap.get?_push_of_some _ (hP2▸hDe▸Heap.get?_push_size _ rfl))
 have okB:=Zk1 (x:=x) (xs:=xs) (C:=C) I sc (by rw[hDe];exact hCle) ff fo
 have hfreshD:H₂ D=none:=I.hok.fresh (by rw[hDe];exact ZsN _)
 have hfreshC:H₂ C=none:=I.hok.fresh (by rw[hDe];exact hCle)
 have I0:Inv (Uf X scope xs C fp s₂ H₂) [(D,{ cls:=.type "list",data:=.seq ([]:List Value).toArray 0 })] (σ++List.replicate xs.length none) H₂ { s₂ with heap:=h₁,toks:=s₂.toks+([]:List (Str×Value)).length }:=by
  refine⟨okB,rfl,I.bare,Un.kept old,⟨_,hns₁,fun i y v e1 e2 e3=>?_⟩,fun y c e=>?_,hfreshC,fun y c e=>I.freeC y c (J0 sc I.ok e),fun p hp=>?_,I.hok.kept old,by simp[Uf,I.len]⟩
  ·have hi:i<σ.length:=by
    by_cases hi:i<σ.length
    ·exact hi
    ·rw[ZsU (by omega)] at e2
     rw[Zu0] at e2
     split at e2<;>cases e2
   rw[ZsX hi] at e2
   have e1':(X.N.map (Zbc xs)++xs)[i]?=some y:=e1
   rw[ZsX (by rw[ZsI,<- I.len];exact hi),ZsM] at e1'
   have lk:scope.names.lookup y=some .local\/scope.names.lookup y=some .free:=by
    have e3':(relabel scope X.env).names.lookup y=some .local\/(relabel scope X.env).names.lookup y=some .cell\/(relabel scope X.env).names.lookup y=some .free:=e3
    rcases e3' with z|z|z
    ·exact .inl ((ZS sc.nc z).1 rfl)
    ·exact .inr ((ZS sc.nc z).2 (.inl rfl))
    ·exact .inr ((ZS sc.nc z).2 (.inr rfl))
   obtain⟨y0,ey0,ey⟩:∃y0,X.N[i]?=some y0/\Zbc xs y0=y:=by
    cases q:X.N[i]? with
    |none=>rw[q] at e1';cases e1'
    |some y0=>rw[q] at e1';exact⟨y0,rfl,Option.some.inj e1'⟩
   have hy0:y0 ∉ xs:=fun z=>by
    have:y=Str.ofString "":=by rw[<- ey];unfold Zbc;rw[if_pos (Zum.mpr z)]
    rw[this,ck.noE] at lk
    rcases lk with z|z<;>cases z
   have ey2:y0=y:=by rw[<- ey];unfold Zbc;rw[if_neg (fun z=>hy0 (Zum.mp z))]
   rw[ey2] at ey0 hy0
   have e1':X.N[i]?=some y:=ey0
   have yN:y∈X.N:=ZsK e1'
   have e3':(relabel scope X.env).names.lookup y=some .local\/(relabel scope X.env).names.lookup y=some .cell\/(relabel scope X.env).names.lookup y=some .free:=e3
   have hcf:(relabel scope X.env).names.lookup y=some .cell\/(relabel scope X.env).names.lookup y=some .free:=by
    rcases e3' with z|z
    ·exact absurd ((ZS sc.nc z).1 rfl) (ck.noN y yN hy0)
    ·exact z
   have hfree:scope.names.lookup y=some .free:=by
    rcases hcf with z|z
    ·exact(ZS sc.nc z).2 (.inl rfl)
    ·exact(ZS sc.nc z).2 (.inr rfl)
   obtain⟨c,hcl⟩:=Qt (X:=X) hfree
   have hcx:=J0 sc I.ok hcl
   have hvis:=sc.fr _ (PySem.mem_of_lookup hfree) rfl
   obtain⟨m,hn,hl⟩:=I.loc
   obtain⟨u,ru,hlook⟩:=hl i y v e1' e2 (.inr hvis)
   refine⟨u,ru,.inr ⟨hcf,c,hcl, ?_⟩⟩
   rcases hlook with ⟨k,_⟩|⟨k,c',ec,hcell⟩
   ·have k':X.env.scope.names.lookup y=some .local:=k
    have hv':X.env.scope.names.lookup y=some .cell\/X.env.scope.names.lookup y=some .free:=hvis
    rw[k'] at hv'
    rcases hv' with z|z<;>cases z
   ·rw[hcx] at ec;cases ec
    obtain⟨o,ho,hd⟩:=hcell
    exact⟨o,old _ _ ho,hd⟩
  ·obtain⟨v,o,ho,hd⟩:=I.cell y c (J0 sc I.ok e)
   exact⟨v,o,old _ _ ho,hd⟩
  ·have e:p=(D,{ cls:=.type "list",data:=.seq ([]:List Value).toArray 0 }):=by simpa[Uf] using hp
   subst e
   exact⟨hacc,hfreshD,hDC,(fun z=>by
    rcases ZsT.mp (I.stkSub D z) with e|e
    ·exact absurd I.lt (by rw[<- e,hDe];exact ZtG _)
    ·exact I.nofs (by rw[hDe];exact ZsN _) e),fun v z=>nomatch z⟩
 obtain⟨W,⟨m0,w0⟩,turn⟩:=hw
 have fpB:∀{H':Hp}{o:Obj},(∀b∈fp,H' b=none)->∀b∈fp,ZgG (Uf X scope xs C fp s₂ H₂) [(D,o)] H' b:=fun {H' o} hn b hb=>by
  obtain⟨f0,f1,f2,f3,f4,f5⟩:=ff b hb
  obtain⟨g1,g2⟩:=okB.exf b hb
  exact⟨hn b hb,g1,okB.exfs b hb,.inl hb,g2,fun p hp=>by
   have e:p=(D,o):=by simpa[Uf] using hp
   subst e
   exact(Ztm (flt b hb)).symm⟩
 have hσ:σ.length=X.N.length:=I.len
 have loop:∀s₃:Shared,s₃={ s₂ with heap:=h₁,toks:=s₂.toks+([]:List (Str×Value)).length } ->
   codeAny (model X.prog X.w) X.A (.compLoop (.ListComp elt [⟨tg,iter,ifs,0⟩] scope pos) 0 (.ref it) (.ref D) (compEnvC scope (Zai scope X.env) C X.env)) (RR (.ref D) C) s₃:=by
  rintro s₃ rfl
  refine Ut
   (fun n s'=>∃i ys its k σx H',σx.length=xs.length/\Inv (Uf X scope xs C fp s₂ H₂) [(D,{ cls:=.type "list",data:=.seq (List.toArray its) k })] (σ++σx) H' s'/\tn i s'.heap/\(∀b∈fp,H' b=none)/\ZY ys its/\W i n ys H') ?_ m0
   ⟨0,[],[],0,List.replicate xs.length none,H₂,by simp,I0,T.keep _ _ _ st (fun b hb o e=>old b o e),fun b hb=>(ff b hb).1,.nil,w0⟩
  rintro n s' ⟨i,ys,its,k,σx,H',hσx,I',st',fr',rv,w'⟩
  obtain⟨hz,hcase⟩:=turn i n ys H' w'
  have hpinD:=I'.pin (D,{ cls:=.type "list",data:=.seq (List.toArray its) k }) (by simp[Uf])
  rcases hcase with ⟨stop,q⟩|⟨go,N,hN,step⟩
  ·refine thn (T.done (Uf X scope xs C fp s₂ H₂) rfl rfl rfl hc i _ s' _ H' _ I' (fpB fr') st' stop) fun r s4 ⟨hr,I4⟩=>?_
   subst hr
   have pD:=I4.pin (D,{ cls:=.type "list",data:=.seq (List.toArray its) k }) (by simp[Uf])
   obtain⟨m4,hn4,_⟩:=I4.loc
   have IX:Inv X pins σ H' s4:=I.call' I4.os I4.base I4.hok I4.bare fun b hb=>by
    obtain⟨f0,f1,f2,f3,f4,f5⟩:=ff b hb
    exact⟨f3,f1,f4,f5⟩
   have IX2:=IX.adopt (D:=D) (ys:=ys) (its:=its) (n:=k) hpinD.2.1 (by rw[<- hDe];exact I.sz) (by rw[<- hDe];exact ZuA I.lt)
    (fun y c e z=>by
     obtain⟨v,o,ho,hd⟩:=I.cell y c e
     have:=Heap.lt_size ho
     rw[hDe,z] at this
     exact ZtG _ this)
    (fun p hp z=>by
     have:=Heap.lt_size (I.pin p hp).1
     rw[hDe,z] at this
     exact ZtG _ this) pD.1 rv hz
   refine hRR D C s4 _ m4 (by rw[hDe];exact hCle) IX2 hn4 ?_ (q D hpinD.2.1)
   rw[Zy (Ne.symm hDC)]
   exact I4.free
  ·refine thn (T.item (Uf X scope xs C fp s₂ H₂) rfl rfl rfl hc i _ s' _ H' _ I' (fpB fr') st' go) fun r s4 ⟨u,hr,h4⟩=>?_
   subst hr
   refine thn h4 fun _ s5 ⟨y,H5,I5,r5,y5,st5,fr5⟩=>?_
   have I5':=I5.pinned (fpB fr5) (T.obj _ _ st5)
   obtain⟨vs,bd5,stp⟩:=step y H5 y5
   refine thn (hb C s₂ H₂ fp _ s5 σ σx H5 y u vs _ hσ hσx I5' r5 bd5) fun _ s6 I6=>?_
   refine thn (ht C s₂ H₂ fp _ s6 _ H5 _ _ I6 stp) fun ok s6' hok=>?_
   obtain⟨H6',I6',q6'⟩:=hok
   have hvl:=hvs _ _ _ bd5
   have stay:∀{s9:Shared}{H9:Hp}{ys':List V}{its':List Value}{k':Nat},True:=fun {_ _ _ _ _}=>trivial
   cases ok with
   |false =>
    rw[if_neg Bool.false_ne_true] at q6' ⊢
    have pD6:=I6'.pin (D,{ cls:=.type "list",data:=.seq (List.toArray its) k }) (by simp[Uf])
    obtain⟨m',hm,w8⟩:=hN _ _ q6'
    refine⟨m',hm,i+1,ys,its,k,vs.map some,H6',by simp[hvl],I6'.pins_of fun p hp=>?_, ?_,fun b hb'=>?_,rv,w8⟩
    ·have e:p=(D,{ cls:=.type "list",data:=.seq (List.toArray its) k }):=by simpa using hp
     subst e
     exact⟨pD6.1,pD6.2.1,pD6.2.2.1,pD6.2.2.2.1,fun v z=>nomatch z⟩
    ·refine T.keep _ _ _ st5 fun b hb' o e=>?_
     exact(I6'.pin (b,o) (ZsL _ (ZsL _ (JI hb' e)))).1
    ·obtain⟨o,e,d⟩:=T.obj _ _ st5 b hb'
     exact(I6'.pin (b,o) (ZsL _ (ZsL _ (JI hb' e)))).2.1
   |true =>
   rw[if_pos rfl] at q6' ⊢
   refine wpAny_mono (he C s₂ H₂ fp _ s6' _ H6' _ I6' q6') (fun u7 s7 h7=>?_) fun _ _ f=>f.elim
   obtain⟨v7,H7,I7,r7,n7⟩:=h7
   have pD7:=I7.pin (D,{ cls:=.type "list",data:=.seq (List.toArray its) k }) (by simp[Uf])
   have hlen:=rv.length
   refine append_at (hsz:=by show its.toArray.size<=sizeLine;rw[ZsR,<- hlen];exact hz) pD7.1 fun h8 hs8 hD8=>?_
   obtain⟨m',hm,w8⟩:=hN _ _ n7
   have hD8':h8.get? D=some { cls:=.type "list",data:=.seq (its++[u7]).toArray (k+1) }:=by rw[hD8,List.push_toArray]
   have I8:Inv (Uf X scope xs C fp s₂ H₂) [] (σ++vs.map some) H7 { s7 with heap:=h8 }:=by
    refine(I7.pins_of (pins':=[]) fun p hp=>absurd hp (by simp)).turned (t':=s7.toks) (it:=D) (fun b o hb e=>(hs8.2 b hb).trans e) pD7.2.1 pD7.2.2.1 (.inr (by show s₂.heap.objs.size<=D;rw[hDe];exact ZsN _)) (fun y' c' e' z=>?_) fun p hp=>absurd (show p∈([]:List (Addr×Obj)) from by simpa[Uf] using hp) (by simp)
    obtain⟨v,o,ho,hd⟩:=I.cell y' c' (J0 sc I.ok e')
    have:=Heap.lt_size ho
    rw[hDe,z] at this
    exact ZtG _ this
   refine⟨m',hm,i+1,ys++[v7],its++[u7],k+1,vs.map some,H7,by simp[hvl],I8.pins_of fun p hp=>?_, ?_,fun b hb'=>?_,rv.append (.cons r7 .nil),w8⟩
   ·have e:p=(D,{ cls:=.type "list",data:=.seq (its++[u7]).toArray (k+1) }):=by simpa using hp
    subst e
    exact⟨hD8',pD7.2.1,pD7.2.2.1,pD7.2.2.2.1,fun v z=>nomatch z⟩
   ·refine T.keep _ _ _ st5 fun b hb' o e=>?_
    have hpb:=I7.pin (b,o) (ZsL _ (ZsL _ (JI hb' e)))
    exact(hs8.2 b (Ztm (flt b hb'))).trans hpb.1
   ·obtain⟨o,e,d⟩:=T.obj _ _ st5 b hb'
    exact(I7.pin (b,o) (ZsL _ (ZsL _ (JI hb' e)))).2.1
 exact codeAny_compStart_list (loop _ rfl) (T.self _ 0 _ _ _ (T.keep _ _ _ st fun b hb o e=>old b o e) (loop _ rfl))
theorem ZdA{c:Expr}(hx:∀e s,X.xe e s->False)(h:PT X c tt):PCi X [c] tt:=fun pins s σ H Q E I q =>
 wpAny_tests_one (wpAny_mono (h pins s σ H Q I q) (fun _ _ z=>z) fun e s z=>(hx e s z).elim)
theorem Vs{px:Pos}(hNd:X.N.Nodup)(hchk:JE X.N X.env.scope scope [x]=true:=by rfl):PB X scope [x] (.Name x px) tB1:=by
 intro C s₂ H₂ ex pins s σ σx H y u vs E hσ hσx I r hb
 have ck:=Vv hchk
 have sc:=ck.scs x (by simp)
 have hb:vs=[y]:=hb
 subst hb
 have ndB:=ck.nd
 refine wpAny_assign_Name ?_
 refine Qk (X:=Uf X scope [x] C ex s₂ H₂) (i:=X.N.length) (x:=x) (v:=y) I ndB (by simp[Uf]) (.inl (lookup_relabel_local sc.var)) r (fun s6 I6=>?_) (.inr (lookup_relabel_local sc.var))
 obtain⟨o,rfl⟩:∃o,σx=[o]:=by
  cases σx with
  |nil=>simp at hσx
  |cons a l =>
   cases l with
   |nil=>exact⟨a,rfl⟩
   |cons b l=>simp at hσx
 have eσ:(σ++[o]).set X.N.length (some y)=σ++[some y]:=by
  rw[<- hσ];simp
 rw[eσ] at I6
 exact I6
theorem ZjZ{α:Type}:∀{l:List α},l.length=2->∃a b,l=[a,b]
 |[a,b],_=>⟨a,b,rfl⟩
theorem ZjD{x y:Str}{px py tp:Pos}{k:Nat}(hNd:X.N.Nodup)(hc:X.calm=true)(hchk:JE X.N X.env.scope scope [x,y]=true:=by rfl):PB X scope [x,y] (.Tuple [.Name x px,.Name y py] k tp) (tB2 X.K):=by
 intro C s₂ H₂ ex pins s σ σx H v u vs E hσ hσx I r hb
 have ck:=Vv hchk
 have sx:=ck.scs x (by simp)
 have sy:=ck.scs y (by simp)
 obtain⟨t,a,b,rfl,hq,rfl⟩:=hb
 have ndB:=ck.nd
 obtain⟨o1,o2,rfl⟩:=ZjZ hσx
 have e1:(σ++[o1,o2]).set X.N.length (some a)=σ++[some a,o2]:=by
  rw[<- hσ];simp
 have e2:(σ++[some a,o2]).set (X.N.length+1) (some b)=σ++[some a,some b]:=by
  rw[<- hσ]
  show List.set (σ++([some a,o2]:St)) _ _=_
  rw[ZuC _ _ (ZuN _)]
  simp
 have g1:PG (Uf X scope [x,y] C ex s₂ H₂) (.Name x px) (UE X.N.length):=ZW ndB (by
  show (X.N.map (Zbc [x,y])++[x,y])[X.N.length]?=some x
  rw[ZsU (by simp)];simp) (.inl (lookup_relabel_local sx.var)) (.inr (lookup_relabel_local sx.var))
 have g2:PG (Uf X scope [x,y] C ex s₂ H₂) (.Name y py) (UE (X.N.length+1)):=ZW ndB (by
  show (X.N.map (Zbc [x,y])++[x,y])[X.N.length+1]?=some y
  rw[ZsU (by simp)];simp) (.inl (lookup_relabel_local sy.var)) (.inr (lookup_relabel_local sy.var))
 have g:PG (Uf X scope [x,y] C ex s₂ H₂) (.Tuple [.Name x px,.Name y py] k tp) (Zna X.K 2 (ZhW (UE X.N.length) (ZhW (UE (X.N.length+1)) Znc))):=Zfs (X:=Uf X scope [x,y] C ex s₂ H₂) hc (VM g1 (VM g2 Zc9))
 refine wpAny_mono (g pins s _ H _ _ (fun σ' H'=>σ'=σ++[some a,some b]/\H'=H) I r ⟨t,[a,b],rfl,hq,rfl,a,[b],rfl,b,[],rfl,rfl, ?_⟩) (fun _ s' hq'=>?_) fun _ _ z=>z.elim
 ·exact⟨by rw[e1,e2],rfl⟩
 ·obtain⟨σ',H',I',e3,e4⟩:=hq'
  subst e3 e4
  exact I'
theorem VN{wi:TI}(hi:PI X tg iter wi)(hb:PB X scope xs tg Bd)(ht:∀C s₂ H₂ ex,PCi (Uf X scope xs C ex s₂ H₂) ifs tt)(he:∀C s₂ H₂ ex,PE (Uf X scope xs C ex s₂ H₂) elt te)(hvs:∀x H vs,Bd x H vs->vs.length=xs.length)(hNd:X.N.Nodup)(hc:X.calm=true)(hclos:closureFor scope X.env=pure (Zai scope X.env):=by rfl)(hchk:JE X.N X.env.scope scope xs=true:=by rfl)(hs:∀x,foldedSetIterable iter X.env x=pure x:=by exact fun _=>rfl) :
  PE X (.ListComp elt [⟨tg,iter,ifs,0⟩] scope pos) (Q1 wi Bd tt te):=by
 intro pins s σ H Q I h
 have ck:=Vv hchk
 obtain⟨x,hx⟩:=ck.ex
 have sc:=ck.scs x hx
 rw[eval_ListComp]
 refine wpAny_comprehension_free (use:=none) rfl hs hclos sc.kind sc.locs (thn (hi pins s σ H _ I h) fun xv s₁ h₁=>thn h₁ fun itv s₂ h₂=>?_)
 obtain⟨it,fp,tn,J,H2,e,I2,T,st2,f2,q⟩:=h₂
 subst e
 refine Zcg (RR:=fun acc C=>compPost (model X.prog X.w) X.A X.xe none (EP X pins σ Q) acc C) I2 ck hx hNd hc T st2 f2 q hb ht he hvs ?_
 intro D C s' H' m' hC I' hn hC0 hq
 refine⟨m',hn,fun h'' hs''=>⟨.ref D,H', ?_,rfl,hq⟩⟩
 refine I'.turned (t':=s'.toks) (it:=C) (fun b o hb e=>(hs''.2 b hb).trans e) hC0 (ZuA (Ztb I2.lt hC)) (.inr (Zth I2.sz hC)) (fun y c e z=>?_) fun p hp z=>?_
 ·obtain⟨v,o,ho,hd⟩:=I2.cell y c e
  exact absurd (Heap.lt_size ho) (Zvf.mpr (by rw[z];exact hC))
 ·exact absurd (Heap.lt_size (I2.pin p hp).1) (Zvf.mpr (by rw[z];exact hC))
noncomputable def Q0(i:Nat)(wi:TI)(Bd:TB)(tt:TT)(te:TE):TS:=fun D σ H=>Q1 wi Bd tt te σ H fun v H'=>D.nx (σ.set i (some v)) H'
theorem Vq{i:Nat}{y:Str}{py spos:Pos}{wi:TI}(hN:X.N.Nodup)(hi:X.N[i]?=some y)(hit:PI X tg iter wi)(hb:PB X scope xs tg Bd)(ht:∀C s₂ H₂ ex,PCi (Uf X scope xs C ex s₂ H₂) ifs tt)(he:∀C s₂ H₂ ex,PE (Uf X scope xs C ex s₂ H₂) elt te)(hvs:∀x H vs,Bd x H vs->vs.length=xs.length)(hc:X.calm=true)(hsw:swapsWith (.ListComp elt [⟨tg,iter,ifs,0⟩] scope pos) (some (.Name y py)) spos.line X.env=pure true:=by rfl)(hy:X.env.scope.names.lookup y=some .local:=by rfl)(hclos:closureFor scope X.env=pure (Zai scope X.env):=by rfl)(hchk:JE X.N X.env.scope scope xs=true:=by rfl)(hs:∀x,foldedSetIterable iter X.env x=pure x:=by exact fun _=>rfl) :
  PS X (.Assign [.Name y py] (.ListComp elt [⟨tg,iter,ifs,0⟩] scope pos) spos) (Q0 i wi Bd tt te):=by
 intro pins s σ H D0 I h
 have ck:=Vv hchk
 obtain⟨x,hx⟩:=ck.ex
 have sc:=ck.scs x hx
 rw[exec_Assign_Name_used _ _ _ _ hsw]
 refine wpAny_bind (wpAny_standAt (wpAny_bind ?_))
 show wpAny _ X.A (do let _ <- comprehension (.ListComp elt [⟨tg,iter,ifs,0⟩] scope pos) scope X.env _ (newList []) false (eval iter X.env) (some (assign (.Name y py) X.env))) _ _ s
 refine wpAny_bind (wpAny_mono (wpAny_comprehension_free (use:=some (assign (.Name y py) X.env)) (Q:=fun _ s'=>SP X pins D0 .next s') rfl hs hclos sc.kind sc.locs
  (thn (hit pins s σ H _ I h) fun xv s₁ h₁=>thn h₁ fun itv s₂ h₂=>?_)) (fun _ s' hq=>wpAny_pure (wpAny_pure hq)) fun _ _ e=>e)
 obtain⟨it,fp,tn,J,H2,e,I2,T,st2,f2,q⟩:=h₂
 subst e
 refine Zcg (RR:=fun acc C=>compPost (model X.prog X.w) X.A X.xe (some (assign (.Name y py) X.env)) (fun _ s'=>SP X pins D0 .next s') acc C) I2 ck hx hN hc T st2 f2 q hb ht he hvs ?_
 intro D C s' H' m' hC I' hn hC0 hq
 show wpAny _ X.A (assign (.Name y py) X.env (.ref D)) _ _ _
 have cellC:∀y c,X.env.cells.lookup y=some c->c≠C:=fun y c e z=>by
  obtain⟨v,o,ho,hd⟩:=I2.cell y c e
  exact absurd (Heap.lt_size ho) (Zvf.mpr (by rw[z];exact hC))
 have locC:C≠X.env.locals:=ZuA (Ztb I2.lt hC)
 refine wpAny_assign_Name (Zb7 (i:=i) (v:=.ref D) I' hN hi (.inl hy) rfl (fun s'' I'' ⟨a,hsa,ha⟩=>?_) (.inr hy))
 have hCa:C≠a:=by
  rcases ha with z|z
  ·rw[z];exact locC
  ·exact(cellC _ _ z).symm
 refine⟨m',hn.sameBut hsa hCa,fun h'' hs''=>⟨σ.set i (some (.ref D)),H', ?_,hq⟩⟩
 refine I''.turned (t':=s''.toks) (it:=C) (fun b o hb e=>(hs''.2 b hb).trans e) hC0 locC (.inr (Zth I2.sz hC)) cellC fun p hp z=>?_
 exact absurd (Heap.lt_size (I2.pin p hp).1) (Zvf.mpr (by rw[z];exact hC))
end
noncomputable def Zbh{α β:Type}(f:α->Rr (Option β)):List α->Rr (List β)
 |[]=>.ok []
 |x::xs=>(f x).bind fun o=>(Zbh f xs).bind fun ys=>.ok (o.toList++ys)
def DB(K:W.Frag)(Bd:TB)(k:Nat)(hb:PV->Rr (List PV)):Prop:=(∀x e,hb x≠.exc e)/\∀(H:Hp) (S:Addr->Prop) (x:PV) (v:V) (xs:List PV),Rep K H S x v->hb x=.ok xs->xs.length=k/\∃vs,Bd v H vs/\Reps K H S xs vs
theorem Zku{K:W.Frag}:DB K tB1 1 (fun x=>.ok [x]):=⟨fun x e h=>(by cases h),fun H S x v xs r h=>by
 cases h
 exact⟨rfl,[v],rfl,v,[],rfl,r,rfl⟩⟩
theorem ZnO{K:W.Frag}:DB K (tB2 K) 2 (asT 2):=by
 refine⟨fun x e h=>?_,fun H S x v xs r h=>?_⟩
 ·unfold asT at h
  split at h
  ·split at h<;>cases h
  ·cases h
 ·unfold asT at h
  split at h
  ·rename_i ys
   split at h
   ·rename_i hl
    cases h
    obtain⟨a,vs,rfl,hq,hr⟩:=r
    refine⟨hl,vs, ?_,hr⟩
    match xs,vs,hl,hr,hq with
    |[p,q],vs,_,hr,hq =>
     obtain⟨u,w,rfl,_,_⟩:=Zjy hr
     exact⟨a,u,w,rfl,hq.sqT,rfl⟩
   ·cases h
  ·cases h
section
variable {K:W.Frag}{B:Addr->Prop}{EX:PX->Hp->Prop}{H0 H H':Hp}{σ:St}{Γ Γ' Γ1 Γ2:List Md}{ρ:List PV}{F:Nat->List Addr}{R:List Addr}{k:Nat}{x:PV}{v:V}{te:TE}{tt:TT}{f fe:List PV->Rr PV}{c:List PV->Rr Bool}{Bd:TB}{hb:PV->Rr (List PV)}
theorem Zca:DT K EX Γ Γ ZkN (fun _=>.ok true):=fun B H0 H σ ρ F R Q A d=>d H F (Z6.refl H) (fun _ _ h=>h) A
theorem Ag.pushN:∀{xs:List PV}{vs:List V}{σ:St}{Γ:List Md}{ρ:List PV},Reps K H (NO B F R) xs vs->Ag K B H0 H σ Γ ρ F R->Ag K B H0 H (σ++vs.map some) (Γ++List.replicate xs.length .S) (ρ++xs) F R
 |[],vs,σ,Γ,ρ,h,A=>by
  have h:vs=[]:=h
  subst h
  simpa using A
 |x::xs,vs,σ,Γ,ρ,h,A=>by
  obtain⟨v,r,rfl,h1,h2⟩:=h
  have:=Ag.pushN (xs:=xs) (vs:=r) h2 (A.push h1)
  simpa[List.replicate_succ] using this
theorem Ag.popN{n:Nat}{τ:St}{xs:List PV}(A:Ag K B H0 H (σ++τ) (Γ++List.replicate n .S) (ρ++xs) F R)(l1:σ.length=Γ.length)(l2:ρ.length=Γ.length):Ag K B H0 H σ Γ ρ F R:=by
 refine⟨A.same,A.own,A.young,A.youngR,A.live,A.liveR,A.disj,A.disjR,l1,l2,fun i=>?_⟩
 have:=A.slot i
 by_cases h1:i<Γ.length
 ·rw[ZsG,ZsG,ZsX h1,ZsX (by rw[l2];exact h1),ZsX (by rw[l1];exact h1),<- ZsG,<- ZsG] at this
  exact this
 ·rw[ZsG,Zti (by omega)]
  by_cases h2:i<Γ.length+n
  ·rw[ZsG,ZsU (by omega),Zu0,if_pos (by omega)] at this
   simp only[Zuw] at this
   exact this.1
  ·exact A.outF (by simp;omega)
theorem Va{wi:TI}{fi:List PV->Rr (List PV)}(hi:DIc K EX Γ Γ1 wi fi)(hB:DB K Bd k hb)(ht:DT K EX (Γ1++List.replicate k .S) (Γ1++List.replicate k .S) tt c)(he:DE K EX (Γ1++List.replicate k .S) (Γ1++List.replicate k .S) .F te fe) :
  DE K EX Γ Γ1 .F (Q1 wi Bd tt te) (fun ρ=>(fi ρ).bind fun xs=>(lenM xs).bind fun _=>(Zbh (fun x=>(hb x).bind fun as=>(c (ρ++as)).bind fun b=>if b=true then (fe (ρ++as)).bind fun y=>.ok (some y) else .ok none) xs).bind fun ys=>.ok (.lst ys)):=fun B H0 H σ ρ F R Q A d=>by
 refine hi B H0 H σ ρ F R _ A (d.bind.imp (fun xs _ d J H1 F1 s1 f1 A1 it=>?_) fun e q=>q)
 obtain⟨hlen,d⟩:=Dn.lenM d.bind
 generalize hgx:(fun x=>(hb x).bind fun as=>(c (ρ++as)).bind fun b=>if b=true then (fe (ρ++as)).bind fun y=>Rr.ok (some y) else .ok none)=gx at d
 have l1:=A1.lenS
 have l2:=A1.lenR
 refine⟨fun i m ys H2=>∃zs G F2,m=xs.length-i/\i<=xs.length/\ys.length<=i/\Z6 H1 H2/\Trees K H2 zs ys G/\(∀a∈G,a ∉ R/\(H1 a=none\/∃j,a∈F1 j))/\(∀i,∀a∈F2 i,a∈F1 i)/\Ag K B H0 H2 σ Γ1 ρ F2 (G++R) /\
  Dn ((Zbh gx (xs.drop i)).bind fun ys'=>.ok (.lst (zs++ys'))) (fun x=>∀v H',Z6 H H'->Res K B H0 H σ Γ1 ρ F R .F x v H'->Q v H') (fun e=>∀H',Z6 H0 H'->EX e H'),
  ⟨xs.length,[],[],F1,by simp,Zts _,ZsN _,Z6.refl _,⟨rfl,rfl⟩,by simp,fun _ _ h=>h,A1,by simpa using d⟩, ?_⟩
 rintro i m ys H2 ⟨zs,G,F2,rfl,hi',hl,s2,tr,o2,f2,A2,dn⟩
 refine⟨JD (by omega), ?_⟩
 have itp:=it H2 F2 s2 f2 i
 cases hx:xs[i]? with
 |none =>
  refine .inl ⟨itp.2 hx,fun p hp=>?_⟩
  have hd:xs.drop i=[]:=ZtM (Zt1.mp hx)
  rw[hd] at dn
  have dn':∀v H',Z6 H H'->Res K B H0 H σ Γ1 ρ F R .F (.lst (zs++[])) v H'->Q v H':=dn
  rw[ZtS] at dn'
  exact dn' _ _ ((s1.trans s2).trans (Z6.new hp)) (Res.newF (s1.trans s2) (fun i a h=>f1 i a (f2 i a h)) tr (fun a ha=>⟨(o2 a ha).1,(o2 a ha).2.elim (fun z=>.inl (s1.free z)) fun⟨j,z⟩=>.inr ⟨j,f1 j a z⟩⟩) A2 hp)
 |some x =>
  have hlt:i<xs.length:=(ZsJ.mp hx).1
  obtain⟨go,yl⟩:=itp.1 x hx
  have hdx:xs.drop i=x::xs.drop (i+1):=by
   rw[Zte hlt]
   rw[ZsH hlt] at hx;cases hx;rfl
  rw[hdx] at dn
  simp only[Zbh,Rr.assoc] at dn
  rw[<- hgx] at dn
  simp only[Rr.assoc] at dn
  rw[hgx] at dn
  refine .inr ⟨go,fun ys' H'=>∃zs G F2,ys'.length<=i+1/\Z6 H1 H'/\Trees K H' zs ys' G/\(∀a∈G,a ∉ R/\(H1 a=none\/∃j,a∈F1 j))/\(∀i,∀a∈F2 i,a∈F1 i)/\Ag K B H0 H' σ Γ1 ρ F2 (G++R) /\
   Dn ((Zbh gx (xs.drop (i+1))).bind fun ys'=>.ok (.lst (zs++ys'))) (fun x=>∀v H',Z6 H H'->Res K B H0 H σ Γ1 ρ F R .F x v H'->Q v H') (fun e=>∀H',Z6 H0 H'->EX e H'),
   fun ys' H' ⟨zs,G,F2,a1,a2,a3,a4,a5,a6,a7⟩=>⟨xs.length-(i+1),by omega,zs,G,F2,rfl,hlt,a1,a2,a3,a4,a5,a6,a7⟩,fun v H3 y=>?_⟩
  obtain⟨s3,rx⟩:=yl v H3 y
  have rx':Rep K H3 (NO B F2 (G++R)) x v:=Rep.mono (fun a us s r=>⟨r,s.1.1,fun z=>by
   rcases ZsO.mp z with z|z
   ·rcases (o2 a z).2 with q|⟨j,q⟩
    ·exact s.2.1 q
    ·exact s.2.2 j q
   ·exact s.1.2.1 z,s.1.2.2⟩) (fun a us r=>r) rx
  cases hbx:hb x with
  |exc e=>exact absurd hbx (hB.1 x e)
  |bad=>rw[hbx] at dn;exact dn.elim
  |ok as =>
   rw[hbx] at dn
   simp only[Rr.bind_ok] at dn
   obtain⟨hk,vs,bd,ra⟩:=hB.2 H3 _ x v as rx' hbx
   refine⟨vs,bd, ?_⟩
   have A3:=Ag.pushN ra (A2.grow s3)
   rw[hk] at A3
   refine ht B H0 H3 _ _ F2 (G++R) _ A3 (dn.bind.imp (fun b _ dn H4 F4 s4 f4 A4=>?_) fun e q=>q)
   cases b with
   |false =>
    rw[if_neg Bool.false_ne_true] at dn ⊢
    simp only[Rr.bind_ok,Zu2] at dn
    refine⟨zs,G,F4,by omega,(s2.trans s3).trans s4,(tr.same s3).same s4,o2,fun i a h=>f2 i a (f4 i a h),A4.popN l1 l2, ?_⟩
    simp only[Rr.assoc,Rr.bind_ok,ZtP] at dn
    exact dn
   |true =>
    rw[if_pos rfl] at dn ⊢
    simp only[Rr.assoc] at dn
    refine he B H0 H4 _ _ F4 (G++R) _ A4 (dn.bind.imp (fun z _ dn w H5 s5 r5=>?_) fun e q=>q)
    obtain⟨F5,f5,G5,t5,o5,A5⟩:=r5
    refine⟨zs++[z],G++G5,F5,by simp;omega,((s2.trans s3).trans s4).trans s5,Trees.append (((tr.same s3).same s4).same s5) (Trees.one t5) (fun a ha z=>(o5 a z).1 (ZsQ _ ha)),fun a ha=>?_,fun i a h=>f2 i a (f4 i a (f5 i a h)),(A5.popN l1 l2).less fun a ha=>?_, ?_⟩
    ·rcases ZsO.mp ha with z|z
     ·exact o2 a z
     ·refine⟨fun q=>(o5 a z).1 (ZsL _ q), ?_⟩
      rcases (o5 a z).2 with q|⟨j,q⟩
      ·exact .inl (((s2.trans s3).trans s4).free q)
      ·exact .inr ⟨j,f2 j a (f4 j a q)⟩
    ·simp only[ZsO] at ha ⊢
     rcases ha with (z|z)|z
     ·exact .inr (.inl z)
     ·exact .inl z
     ·exact .inr (.inr z)
    ·simp only[Rr.assoc,Rr.bind_ok,Zu2,ZsS,ZtU] at dn ⊢
     exact dn
theorem JQ{EX:PX->Hp->Prop}{kd:Kd}{i:Nat}{wi:TI}(he:DE K EX Γ Γ' .F (Q1 wi Bd tt te) f)(hi:i<Γ'.length):DS K EX Γ ⟨Γ'.set i .O,Γ1,Γ2,kd⟩ (Q0 i wi Bd tt te) (fun ρ=>(f ρ).thenS fun x=>.next (ρ.set i x)):=ZG he hi
end
theorem hv1{n:Str}:∀(x:V) (H:Hp) (vs:List V),tB1 x H vs->vs.length=[n].length:=fun _ _ _ h=>congrArg List.length h
theorem hv2{K:W.Frag}{n m:Str}:∀(x:V) (H:Hp) (vs:List V),tB2 K x H vs->vs.length=[n,m].length:=fun _ _ _ ⟨_,_,_,_,_,h⟩=>congrArg List.length h
theorem Zho{X:Cx}{K:W.Frag}{scope:Scope}{x y:Str}{px py tp:Pos}{k:Nat}(hNd:X.N.Nodup)(hc:X.calm=true)(hchk:JE X.N X.env.scope scope [x,y]=true:=by rfl)(e:X.K=K:=by rfl):PB X scope [x,y] (.Tuple [.Name x px,.Name y py] k tp) (tB2 K):=by subst e;exact ZjD hNd hc hchk
section
end
theorem U5{xs:List PV}{y:PV}(h:xs.length<1000000):pApp (.lst xs) y=.ok (.lst (xs++[y])):=if_pos h
theorem ZmS:Zll (.int 10) (.int 62)=.ok (.int (10^62)):=by rw[ZcD (by decide)];rfl
theorem ZmT:Zll (.int 10) (.int 61)=.ok (.int (10^61)):=by rw[ZcD (by decide)];rfl
theorem Zhu{i j:Int}:Zhv [.int i,.int j]=.ok (.int (if j>i then j else i)):=rfl
theorem Znk{a b:PV}:asT 2 (.tup [a,b])=.ok [a,b]:=rfl
noncomputable def ZnF:Nat:=4000000
def Zmv(i j:Int):Prop:=i.natAbs<2^ZnF/\j.natAbs<2^ZnF
noncomputable instance (i j:Int):Decidable (Zmv i j):=by unfold Zmv;infer_instance
end L2
namespace Att
open PySem PySem.W PySem.Calls PyProof.Rows
end Att
namespace L2
open PySem PySem.Spec PyProof.Rows
section
end
noncomputable def okE(x:PV):Bool:=x.noX&&x.dat.canLay0&&decide (x.dat.depth<=60)
noncomputable def Zmy(K:W.Frag)(g:Bool->Bool):R2:=fun x y H Q=>∃p qs a vs,Rep K H (fun _=>True) p x/\y=.ref a/\(SqL K H a vs\/SqT K H a vs)/\Reps K H (fun _=>True) qs vs/\okE p=true/\(qs.all okE)=true/\Q (.bl (g (qs.any fun q=>PyData.eqv q.dat p.dat))) H
open Classical in
noncomputable def ZeC(h:Heap)(dx:PyData)(y:Value):Bool:=if hy:∃d as,Reads h y d as/\d.canLay0=true/\d.depth<=60 then PyData.eqv hy.choose dx else false
section
variable {X:Cx}{K:W.Frag}
theorem ZbY{H:Hp}{pins:List (Addr×Obj)}{σ:St}{s:Shared}{S:Addr->Prop}(I:Inv X pins σ H s)(dx:PyData):∀{qs:List PV}{vs:List V}{us:List Value},Reps X.K H S qs vs->ZY vs us->(qs.all okE)=true ->
  (us.any (ZeC s.heap dx)=qs.any fun q=>PyData.eqv q.dat dx)/\∀y∈us,∃d as,Reads s.heap y d as/\d.canLay0=true/\d.depth<=60
 |[],_,us,h,r,_=>by
  rw[h] at r;cases r
  exact⟨rfl,by simp⟩
 |q::qs,_,us,h,r,hk=>by
  obtain⟨v,vs,rfl,h1,h2⟩:=h
  simp only[List.all_cons,Bool.and_eq_true] at hk
  cases r with
  |cons r1 r2 =>
   rename_i u us
   obtain⟨e1,e2⟩:=ZbY I dx h2 r2 hk.2
   have h3:=hk.1
   simp only[okE,Bool.and_eq_true,decide_eq_true_eq] at h3
   obtain⟨as,ra⟩:=h1.reads I h3.1.1 r1
   have hx:∃d as,Reads s.heap u d as/\d.canLay0=true/\d.depth<=60:=⟨_,_,ra,h3.1.2,h3.2⟩
   refine⟨?_,fun y hy=>?_⟩
   ·have:ZeC s.heap dx u=PyData.eqv q.dat dx:=by
     unfold ZeC
     rw[dif_pos hx]
     obtain⟨as',ra',c1,c2⟩:=hx.choose_spec
     rw[SeqAt.Reads.unique _ _ _ _ _ c1 ra' ra]
    rw[Zuo,Zuo,e1,this]
   ·rcases ZsT.mp hy with rfl|hy
    ·exact hx
    ·exact e2 y hy
theorem ZiR{H:Hp}{pins:List (Addr×Obj)}{σ:St}{s:Shared}{g:Bool->Bool}{x y:V}{v u:Value}{Q:VK}(I:Inv X pins σ H s)(hu:X.A.units+64<cLine)(rx:Jo x v)(ry:Jo y u)(h:Zmy X.K g x y H Q) :
  ∃a items,u=.ref a/\(s.heap.IsList a items\/s.heap.IsTuple a items)/\∃e:Value->Bool,(∀y,y∈items->SeqAt.EqAt X.A.in1 s y v (e y))/\Q (.bl (g (items.any e))) H:=by
 obtain⟨p,qs,a,vs,h1,rfl,hq,hr,h3,h4,q⟩:=h
 cases ry
 simp only[okE,Bool.and_eq_true,decide_eq_true_eq] at h3
 obtain⟨as,ra⟩:=h1.reads I h3.1.1 rx
 have fin:∀its:List Value,ZY vs its->(∀y,y∈its.toArray->SeqAt.EqAt X.A.in1 s y v (ZeC s.heap p.dat y))/\Q (.bl (g (its.toArray.any (ZeC s.heap p.dat)))) H:=fun its rv=>by
  obtain⟨e1,e2⟩:=ZbY I p.dat hr rv h4
  refine⟨fun y hy=>?_, ?_⟩
  ·have hx:=e2 y (by simpa using hy)
   unfold ZeC
   rw[dif_pos hx]
   obtain⟨as',ra',c1,c2⟩:=hx.choose_spec
   refine SeqAt.eqAt_reads _ _ _ _ _ _ _ _ ra' ra c1 h3.1.2 ?_
   have:=ZuL hx.choose.depth p.dat.depth
   have hin:X.A.in1.units<=X.A.units+1:=by simp[Around.in1]
   omega
  ·rw[List.any_toArray,e1];exact q
 rcases hq with hq|hq
 ·obtain⟨its,rv,pl,hz⟩:=I.list hq
  obtain⟨f1,f2⟩:=fin its rv
  exact⟨a,its.toArray,rfl,.inl pl.isList,_,f1,f2⟩
 ·obtain⟨its,rv,pl,hz⟩:=I.tuple hq
  obtain⟨f1,f2⟩:=fin its rv
  exact⟨a,its.toArray,rfl,.inr pl,_,f1,f2⟩
theorem Zl4(hu:X.A.units+64<cLine)(e:X.K=K:=by rfl):OpR X (compareOp .In) (Zmy K id):=by
 subst e
 intro pins s σ H x y v u Q I rx ry h
 obtain⟨a,items,rfl,hl,e,he,q⟩:=ZiR I hu rx ry h
 rcases hl with hl|hl
 ·exact SeqAt.in_listAt e hl he ⟨.bl _,H,I,rfl,q⟩
 ·exact SeqAt.in_tupleAt e hl he ⟨.bl _,H,I,rfl,q⟩
theorem QB(hu:X.A.units+64<cLine)(e:X.K=K:=by rfl):OpR X (compareOp .NotIn) (Zmy K (!·)):=by
 subst e
 intro pins s σ H x y v u Q I rx ry h
 obtain⟨a,items,rfl,hl,e,he,q⟩:=ZiR I hu rx ry h
 rcases hl with hl|hl
 ·exact SeqAt.notIn_listAt e hl he ⟨.bl _,H,I,rfl,q⟩
 ·exact SeqAt.notIn_tupleAt e hl he ⟨.bl _,H,I,rfl,q⟩
end
noncomputable def Zk9(g:Bool->Bool)(x y:PV):Rr PV:=match y with
 |.lst ys=>if (okE x&&ys.all okE)=true then .ok (.bl (g (ys.any fun q=>PyData.eqv q.dat x.dat))) else .bad
 |.tup ys=>if (okE x&&ys.all okE)=true then .ok (.bl (g (ys.any fun q=>PyData.eqv q.dat x.dat))) else .bad
 |_=>.bad
section
variable {K:W.Frag}{EX:PX->Hp->Prop}{Γ Γ1 Γ2:List Md}{tb tc:TE}{fb fc:List PV->Rr PV}
theorem Zec{g:Bool->Bool}(ha:DE K EX Γ Γ1 .A tb fb)(hb:DE K EX Γ1 Γ2 .A tc fc):DE K EX Γ Γ2 .P (tOp (Zmy K g) tb tc) (fun ρ=>(fb ρ).bind fun x=>(fc ρ).bind fun y=>Zk9 g x y):=by
 refine Zgp (fun {H x y v w Q} rx ry ⟨z,e,q⟩=>?_) (fun x y z h=>?_) (fun x y e h=>?_) ha hb
 ·unfold Zk9 at e
  split at e
  ·split at e
   ·rename_i ys hk
    cases e
    rw[Bool.and_eq_true] at hk
    obtain⟨a,vs,rfl,hn,hr⟩:=ry
    exact⟨x,_,a,vs,rx,rfl,.inl (JC (S:=fun _=>True) hn),hr,hk.1,hk.2,q rfl _ rfl⟩
   ·cases e
  ·split at e
   ·rename_i ys hk
    cases e
    rw[Bool.and_eq_true] at hk
    obtain⟨a,vs,rfl,hn,hr⟩:=ry
    exact⟨x,_,a,vs,rx,rfl,.inr hn.sqT,hr,hk.1,hk.2,q rfl _ rfl⟩
   ·cases e
  ·cases e
 ·unfold Zk9 at h
  split at h
  ·split at h<;>cases h;rfl
  ·split at h<;>cases h;rfl
  ·cases h
 ·unfold Zk9 at h
  split at h
  ·split at h<;>cases h
  ·split at h<;>cases h
  ·cases h
end
theorem Zgd{ns:List Int}{f:PV->Rr (Option PV)}{g:Nat->PV}(h:∀i,i<ns.length->f (.tup [.int i,.int (ns.getD i 0)])=.ok (some (g i))):Zbh f (Zag (ns.map PV.int))=.ok ((List.range ns.length).map g):=by
 have e:Zag (ns.map PV.int)=(List.range ns.length).map fun i=>PV.tup [.int (i:Nat),.int (ns.getD i 0)]:=by
  apply Zt9
  intro i
  unfold Zag
  rw[ZuI,ZsM,ZsM]
  by_cases hi:i<ns.length
  ·rw[ZsH hi,Zt6 hi]
   simp[ZsG,ZsH hi]
  ·rw[Zti (by omega),Zti (by simpa using hi)];rfl
 rw[e]
 have:∀l:List Nat,(∀i∈l,i<ns.length)->Zbh f (l.map fun i=>PV.tup [.int (i:Nat),.int (ns.getD i 0)])=.ok (l.map g):=by
  intro l
  induction l with
  |nil=>intro _;rfl
  |cons a l ih =>
   intro hl
   simp only[ZsW,Zbh,h a (hl a (by simp)),Rr.bind_ok,ih fun i hi=>hl i (by simp[hi]),Zu2,ZtU]
 exact this _ fun i hi=>Ztv.mp hi
section
end
theorem Zj7{X:Cx}{K:W.Frag}{tg l:Expr}{tl:TE}(hl:PE X l tl)(e:X.K=K:=by rfl):PI X tg l (ZmZ K tl):=by subst e;exact Zlh hl
noncomputable def Znj(x:PV):Rr (List PV):=match x with
 |.tup xs=>.ok xs
 |_=>.bad
section
variable {K:W.Frag}{H:Hp}{EX:PX->Hp->Prop}{Γ Γ':List Md}{te:TE}{f:List PV->Rr PV}
theorem Zkd{a:Addr}{xs:List PV}{S:Addr->Prop}(h:Rep K H S (.tup xs) (.ref a)):ItP K S (Itt K a) xs H:=by
 obtain⟨a',vs,e,hn,hr⟩:=h
 cases e
 intro i
 constructor
 ·intro x hx
  obtain⟨u,e1,e2⟩:=hr.get hx
  refine⟨⟨vs,u,hn.sqT,e1⟩,fun v H' ⟨e,y⟩=>?_⟩
  subst e
  have:=y vs hn.sqT
  rw[e1] at this;cases this
  exact⟨Z6.refl _,e2⟩
 ·intro hx
  exact⟨vs,hn.sqT,by rw[hr.length];exact Zt1.mp hx⟩
theorem Zma(he:DE K EX Γ Γ' .Z te f):DI K EX Γ Γ' (ZmZ K te) (fun ρ=>(f ρ).bind Znj):=fun B H0 H σ ρ F R Q A d=>by
 refine he B H0 H σ ρ F R _ A (d.bind.imp (fun x _ d v H1 s1 r1=>?_) fun e q=>q)
 obtain⟨F1,f1,p1,A1⟩:=r1
 cases x with
 |tup xs =>
  obtain⟨a,vs,rfl,hn,hr⟩:=id p1
  exact⟨a,rfl,⟨vs,hn.sqT⟩,d _ H1 F1 s1 f1 A1 fun H2 F2 h=>Zkd (p1.frm h A1)⟩
 |_=>exact d.elim
end
theorem Zk2{xs:List PV}:Znj (.tup xs)=.ok xs:=rfl
section
end
noncomputable def ZdG(p q:Int->Int->Bool)(x y:PV)(r:Rr PV):Rr PV:=match x,y with
 |.int i,.int j=>if p i j=true then r.bind fun z=>oI (fun _ _=>true) (fun i j=>.bl (q i j)) (.int j) z else .ok (.bl false)
 |_,_=>.bad
theorem Zf6{p q:Int->Int->Bool}{i j k:Int}:ZdG p q (.int i) (.int j) (.ok (.int k))=.ok (.bl (p i j&&q j k)):=by
 simp only[ZdG,Rr.bind_ok,oI,if_true]
 cases p i j<;>simp
section
variable {K:W.Frag}{B:Addr->Prop}{EX:PX->Hp->Prop}{H0 H H':Hp}{σ:St}{Γ Γ1 Γ2:List Md}{ρ:List PV}{F F':Nat->List Addr}{R:List Addr}{k:Nat}{x:PV}{v:V}{ta tb tc:TE}{fa fb fc:List PV->Rr PV}{hb:PV->Rr (List PV)}
theorem Zii{p q:Int->Int->Bool}(ha:DE K EX Γ Γ1 .A ta fa)(hb:DE K EX Γ1 Γ2 .A tb fb)(hc:DE K EX Γ2 Γ2 .A tc fc) :
  DE K EX Γ Γ2 .P (Zi6 (rI0 fun i j=>.bl (p i j)) (rI0 fun i j=>.bl (q i j)) ta tb tc) (fun ρ=>(fa ρ).bind fun x=>(fb ρ).bind fun y=>ZdG p q x y (fc ρ)):=fun B H0 H σ ρ F R Q A d=>by
 refine two (Q:=fun v w H2=>(rI0 fun i j=>.bl (p i j)) v w H2 fun z H3=>∃k,z=.bl k/\(if k=true then tc σ H3 fun w' H4=>(rI0 fun i j=>.bl (q i j)) w w' H4 Q else Q (.bl false) H3)) ha hb A d.bind2 fun x y v w H' F' d s hF p1 p2 A'=>?_
 cases x<;>cases y<;>first|exact d.elim|skip
 rename_i i j
 cases p1;cases p2
 refine⟨i,j,rfl,rfl,_,rfl, ?_⟩
 simp only[ZdG] at d
 by_cases h:p i j=true
 ·rw[if_pos h] at d ⊢
  refine hc B H0 H' σ ρ F' R _ A' (d.bind.imp (fun z _ d u H3 s3 r3=>?_) fun e q=>q)
  obtain⟨F3,f3,p3,A3⟩:=r3
  cases z<;>first|exact d.elim|skip
  cases p3
  exact⟨j,_,rfl,rfl,d _ H3 (s.trans s3) ⟨F3,fun i a h=>hF i a (f3 i a h),rfl,rfl,A3⟩⟩
 ·rw[if_neg h] at d ⊢
  exact d _ H' s ⟨F',hF,rfl,rfl,A'⟩
end
theorem ZaM{xs:List PV}:ZgL [.lst xs]=.ok (.int xs.length):=by simp[ZgL]
theorem ZjI{xs:List PV}{k:Int}(h0:0<=k)(h1:k<xs.length):pIx (.lst xs) (.int k)=.ok (xs.getD k.toNat .non):=by
 simp only[pIx,atI,ZdT h0 h1,Option.bind_some]
 rw[ZsG,ZsH (by omega)]
 rfl
section
end
structure Dat(n:Nat)(x:PV):Prop where
 nx:x.noX=true
 can:x.dat.canLay0=true
 dep:x.dat.depth<=n
theorem Dat.ok{n:Nat}{x:PV}(h:Dat n x)(hn:n<=64:=by decide):okD x=true:=by
 unfold okD
 rw[h.nx,h.can,decide_eq_true (Zth h.dep hn)];rfl
theorem UU(i:Int):Dat 0 (.int i):=⟨rfl,by simp[PV.dat,PyData.canLay0],by simp[PV.dat,PyData.depth]⟩
theorem Zbl{n:Nat}:∀{xs:List PV},(∀x∈xs,Dat n x)->PV.noXs xs=true/\PyData.canLayAll0 (PV.dats xs)=true/\PyData.depthAll (PV.dats xs)<=n
 |[],_=>⟨rfl,rfl,Zts _⟩
 |x::xs,h=>by
  obtain⟨h1,h2,h3⟩:=Zbl (xs:=xs) fun y hy=>h y (by simp[hy])
  have hx:=h x (by simp)
  refine⟨by simp[PV.noXs,hx.nx,h1],by simp[PV.dats,PyData.canLayAll0,hx.can,h2], ?_⟩
  simp only[PV.dats,PyData.depthAll]
  exact Nat.max_le.mpr ⟨hx.dep,h3⟩
theorem Zbn{n:Nat}{xs:List PV}(h:∀x∈xs,Dat n x):Dat (n+1) (.lst xs):=by
 obtain⟨h1,h2,h3⟩:=Zbl h
 exact⟨by simp[PV.noX,h1],by simp[PV.dat,PyData.canLay0,h2],by simp only[PV.dat,PyData.depth];omega⟩
theorem Zbm{n:Nat}{xs:List PV}(h:∀x∈xs,Dat n x):Dat (n+1) (.tup xs):=by
 obtain⟨h1,h2,h3⟩:=Zbl h
 exact⟨by simp[PV.noX,h1],by simp[PV.dat,PyData.canLay0,h2],by simp only[PV.dat,PyData.depth];omega⟩
theorem Dat.up{m n:Nat}{x:PV}(h:Dat m x)(hn:m<=n):Dat n x:=⟨h.nx,h.can,Zth h.dep hn⟩
theorem Zbo(ns:List Int):Dat 1 (.lst (ns.map PV.int)):=Zbn fun x hx=>by
 obtain⟨i,_,rfl⟩:=ZsV.mp hx
 exact UU i
theorem Zkw{a:Str}(h:PyData.canLay0 (.str a)=true):Dat 0 (.str a):=⟨rfl,h,by simp[PV.dat,PyData.depth]⟩
theorem UF{f:PV->Rr (Option PV)}{p:Nat->Bool}{g:Nat->PV}{lo:Int}{n:Nat}(h:∀i,i<n->f (.int (lo+(i:Nat)))=.ok (if p i=true then some (g i) else none)):Zbh f (Zct lo n)=.ok (((List.range n).filter p).map g):=by
 have key:∀(l:List Nat),(∀i∈l,i<n)->Zbh f (l.map fun(i:Nat)=>PV.int (lo+i))=.ok ((l.filter p).map g):=by
  intro l
  induction l with
  |nil=>intro _;rfl
  |cons a l ih =>
   intro hl
   simp only[ZsW,Zbh,h a (hl a (by simp)),Rr.bind_ok,ih fun i hi=>hl i (by simp[hi])]
   cases hp:p a<;>simp[hp,List.filter_cons]
 exact key _ fun i hi=>Ztv.mp hi
theorem ZhA{f:PV->Rr PV}{g:Nat->PV}{lo:Int}{n:Nat}(h:∀i,i<n->f (.int (lo+(i:Nat)))=.ok (g i)):ZaV f (Zct lo n)=.ok ((List.range n).map g):=by
 have key:∀(l:List Nat),(∀i∈l,i<n)->ZaV f (l.map fun(i:Nat)=>PV.int (lo+i))=.ok (l.map g):=by
  intro l
  induction l with
  |nil=>intro _;rfl
  |cons a l ih =>
   intro hl
   simp only[ZsW,ZaV,h a (hl a (by simp)),Rr.bind_ok,ih fun i hi=>hl i (by simp[hi])]
 exact key _ fun i hi=>Ztv.mp hi
theorem Zhx{α:Type}{q:α->PV}{L:List α}{k:Int}{d:α}(h0:0<=k)(h1:k<L.length):pIx (.lst (L.map q)) (.int k)=.ok (q (L.getD k.toNat d)):=by
 rw[ZjI h0 (by simpa using h1),ZsG,ZsG,ZsM,ZsH (by omega)]
 rfl
section
end
theorem us1{α:Type}{us:List α}(h:us.length=1):∃a,us=[a]:=match us,h with | [a],_=>⟨a,rfl⟩
theorem us2{α:Type}{us:List α}(h:us.length=2):∃a b,us=[a,b]:=match us,h with | [a,b],_=>⟨a,b,rfl⟩
theorem us3{α:Type}{us:List α}(h:us.length=3):∃a b c,us=[a,b,c]:=match us,h with | [a,b,c],_=>⟨a,b,c,rfl⟩
theorem us4{α:Type}{us:List α}(h:us.length=4):∃a b c d,us=[a,b,c,d]:=match us,h with | [a,b,c,d],_=>⟨a,b,c,d,rfl⟩
theorem us5{α:Type}{us:List α}(h:us.length=5):∃a b c d e,us=[a,b,c,d,e]:=match us,h with | [a,b,c,d,e],_=>⟨a,b,c,d,e,rfl⟩
section
end
theorem Dat.okE{n:Nat}{x:PV}(h:Dat n x)(hn:n<=60:=by decide):okE x=true:=by
 unfold L2.okE
 rw[h.nx,h.can,decide_eq_true (Zth h.dep hn)];rfl
theorem VA{g:Bool->Bool}{i:Int}{ns:List Int}:Zk9 g (.int i) (.lst (ns.map PV.int))=.ok (.bl (g (decide (i∈ns)))):=by
 have hall:∀ns:List Int,(okE (.int i)&&(ns.map PV.int).all okE)=true:=fun ns=>by
  rw[(UU i).okE,Bool.true_and,Zt4]
  intro x hx
  obtain⟨q,_,rfl⟩:=ZsV.mp hx
  exact(UU q).okE
 simp only[Zk9]
 rw[if_pos (hall ns)]
 congr 3
 induction ns with
 |nil=>simp
 |cons q M ih =>
  rw[ZsW,Zuo,ih]
  simp only[PV.dat,PyData.eqv]
  by_cases c:q=i
  ·simp[c]
  ·have:¬i=q:=fun z=>c z.symm
   simp[c,this]
section
end
noncomputable abbrev PL2:=Addr×List Int
section
end
noncomputable def Zcu(t:List Int):PV:=.lst (t.map PV.int)
section
variable {K:W.Frag}{B:Addr->Prop}{EX:PX->Hp->Prop}{H0 H:Hp}{σ:St}{Γ Γ1 Γ2:List Md}{ρ:List PV}{F:Nat->List Addr}{R:List Addr}{te tb:TE}{fb:List PV->Rr PV}
theorem Zdq:∀{xs:List PV}{vs:List V}{G:List Addr}{n:Nat}{z:PV},Trees K H xs vs G->xs[n]?=some z->∃u G',vs[n]?=some u/\Jg K H z u G'/\∀a∈G',a∈G
 |[],_,_,n,z,_,e=>by simp at e
 |x::xs,vs,G,n,z,h,e=>by
  obtain⟨v,r,G1,G2,rfl,h1,h2,h3,rfl⟩:=h
  cases n with
  |zero=>simp at e;subst e;exact⟨v,G1,by simp,h1,fun a ha=>ZsQ _ ha⟩
  |succ n =>
   obtain⟨u,G',e1,e2,e3⟩:=Zdq (n:=n) h2 (by simpa using e)
   exact⟨u,G',by simpa using e1,e2,fun a ha=>ZsL _ (e3 a ha)⟩
theorem Zdp:∀{xs:List PV}{vs:List V}{G:List Addr},Trees K H xs vs G->vs.length=xs.length
 |[],_,_,h=>by rw[h.1];rfl
 |x::xs,vs,G,h=>by
  obtain⟨v,r,G1,G2,rfl,h1,h2,h3,rfl⟩:=h
  simp[Zdp h2]
theorem ZgS{xs:List PV}{vs:List V}{G:List Addr}{i:Int}{z:PV}(h:Trees K H xs vs G)(e:atI xs i=some z):∃u G',atI vs i=some u/\Jg K H z u G'/\∀a∈G',a∈G:=by
 unfold atI at e ⊢
 rw[Zdp h]
 cases hk:ixN xs.length i with
 |none=>rw[hk] at e;cases e
 |some k =>
  rw[hk] at e
  obtain⟨u,G',e1,e2,e3⟩:=Zdq (n:=k) h e
  exact⟨u,G',e1,e2,e3⟩
noncomputable def Zmz(x y:PV):Rr PV:=match x,y with
 |.tup xs,.int i=>match atI xs i with
  |some z=>.ok z
  |none=>.bad
 |_,_=>.bad
theorem ZiX{te ta':TE}{fa':List PV->Rr PV}(ha:DE K EX Γ Γ1 .F ta' fa')(hb:DE K EX Γ1 Γ2 .A tb fb):DE K EX Γ Γ2 .F (tOp (rIx K) ta' tb) (fun ρ=>(fa' ρ).bind fun x=>(fb ρ).bind fun y=>Zmz x y):=fun B H0 H σ ρ F R Q A d=>by
 refine ha B H0 H σ ρ F R _ A (d.bind.imp (fun x _ d v H1 s1 r1=>?_) fun e q=>q)
 obtain⟨F1,f1,G,t1,o1,A1⟩:=r1
 refine hb B H0 H1 σ ρ F1 (G++R) _ A1 (d.bind.imp (fun y _ d w H2 s2 r2=>?_) fun e q=>q)
 obtain⟨F2,f2,p2,A2⟩:=r2
 cases x with
 |tup xs =>
  cases y with
  |int i =>
   cases p2
   have t2:=t1.same s2
   obtain⟨a,vs,rfl,hq,ht⟩:=t2
   unfold Zmz at d
   cases e1:atI xs i with
   |none=>simp only[e1] at d;exact d.elim
   |some z =>
    simp only[e1] at d
    obtain⟨u,G',e2,e3,e4⟩:=ZgS ht e1
    exact .inr (.inl ⟨a,vs,i,u,rfl,rfl,hq.sqT,e2,d u H2 (s1.trans s2) ⟨F2,fun i a h=>f1 i a (f2 i a h),G',e3,fun b hb=>o1 b (e4 b hb),A2.less fun b hb=>by
     rcases ZsO.mp hb with z|z
     ·exact ZsQ _ (e4 b z)
     ·exact ZsL _ z⟩⟩)
  |_=>exact d.elim
 |_=>exact d.elim
theorem Zlr{x:PV}{xs:List PV}:Zmz (.tup (x::xs)) (.int 0)=.ok x:=by simp[Zmz,atI,ixN]
end
theorem ZmP{g:Bool->Bool}{m n:Nat}{x y:PV}(hx:Dat m x)(hy:Dat n y)(h1:m<=64:=by decide)(h2:n<=64:=by decide):Zac g x y=.ok (.bl (g (PyData.eqv x.dat y.dat))):=by
 unfold Zac
 rw[hx.ok h1,hy.ok h2,Bool.and_self,if_pos rfl]
theorem ZdY{α:Type}[DecidableEq α]{q:α->PV}(h:∀a b,PyData.eqv (q a).dat (q b).dat=decide (a=b)):∀L M:List α,PyData.eqvAll (PV.dats (L.map q)) (PV.dats (M.map q))=decide (L=M)
 |[],[]=>by simp[PV.dats,PyData.eqvAll]
 |[],b::M=>by simp[PV.dats,PyData.eqvAll]
 |a::L,[]=>by simp[PV.dats,PyData.eqvAll]
 |a::L,b::M=>by
  simp only[ZsW,PV.dats,PyData.eqvAll,h a b,ZdY h L M,List.cons.injEq]
  by_cases c:a=b<;>by_cases d:L=M<;>simp[c,d]
theorem ZhY(a b:List Int):PyData.eqv (Zcu a).dat (Zcu b).dat=decide (a=b):=by
 simp only[Zcu,PV.dat,QV,PyData.eqv,Ur]
theorem Zee(M:List (List Int)):Dat 2 (.lst (M.map Zcu)):=Zbn fun x hx=>by
 obtain⟨q,_,rfl⟩:=ZsV.mp hx
 exact Zbo q
theorem Zhz{g:Bool->Bool}(L M:List (List Int)):Zac g (.lst (L.map Zcu)) (.lst (M.map Zcu))=.ok (.bl (g (decide (L=M)))):=by
 rw[ZmP (Zee L) (Zee M)]
 simp only[PV.dat,PyData.eqv,ZdY ZhY]
theorem Zgc{α:Type}{f:PV->Rr (Option PV)}{q:α->PV}{p:α->Bool}{g:α->PV}{L:List α}(h:∀x∈L,f (q x)=.ok (if p x=true then some (g x) else none)):Zbh f (L.map q)=.ok ((L.filter p).map g):=by
 induction L with
 |nil=>rfl
 |cons a l ih =>
  simp only[ZsW,Zbh,h a (by simp),Rr.bind_ok,ih fun z hz=>h z (by simp[hz])]
  cases hp:p a<;>simp[hp,List.filter_cons]
noncomputable def minus(H:Hp)(G:List Addr):Hp:=fun a=>if a∈G then none else H a
theorem ZdO{H:Hp}{G:List Addr}{a:Addr}(h:a∈G):minus H G a=none:=if_pos h
theorem ZX{H:Hp}{G:List Addr}{a:Addr}(h:a ∉ G):minus H G a=H a:=if_neg h
theorem Ze2{H:Hp}{G:List Addr}:Z6 (minus H G) H:=fun a o h=>by
 unfold minus at h
 split at h
 ·cases h
 ·exact h
theorem Rd.minus{H:Hp}{G:List Addr}{a:Addr}{u:HO}(h:Rd H a u)(n:a ∉ G):Rd (minus H G) a u:=by
 rcases h with h|⟨o,h⟩
 ·exact .inl (by rw[ZX n];exact h)
 ·exact .inr ⟨o,by rw[ZX n];exact h⟩
theorem Im.minus{K:W.Frag}{H:Hp}{G:List Addr}{a:Addr}{k:HO}(hG:∀b∈G,∃vs:LvO,H b=some vs.1)(h:Im K H a k):Im K (minus H G) a k:=by
 refine⟨?_,h.2⟩
 rw[ZX fun z=>?_]
 ·exact h.1
 ·obtain⟨vs,q⟩:=hG a z
  exact ZaW vs.2 h.2 (by rw[h.1] at q;exact Option.some.inj q)
section
variable {K:W.Frag}{B:Addr->Prop}{H0 H H':Hp}{σ:St}{Γ:List Md}{ρ:List PV}{F:Nat->List Addr}
theorem Ag.lost{G:List Addr}(A:Ag K B H0 H σ Γ ρ F (G++[]))(s:Z6 (minus H G) H'):Ag K B H0 H' σ Γ ρ F []:=by
 have hG:∀b∈G,∃vs:LvO,H b=some vs.1:=fun b hb=>A.liveR b (by simp[hb])
 refine⟨fun a o h=>s a o ?_,A.own,A.young,by simp,fun i a ha=>?_,by simp,A.disj,by simp,A.lenS,A.lenR,fun i=>?_⟩
 ·rw[ZX (fun z=>by have:=A.youngR a (by simp[z]);rw[h] at this;cases this)]
  exact A.same a o h
 ·obtain⟨vs,q⟩:=A.live i a ha
  exact⟨vs,s _ _ (by rw[ZX (fun z=>A.disjR i a ha (by simp[z]))];exact q)⟩
 ·refine(A.slot i).mono (fun a vs n r=>⟨(r.minus (fun z=>n.2.1 (by simp[z]))).same s,n.1,by simp,n.2.2⟩) (fun a vs r=>s.im (r.minus hG)) fun a ha vs q=>s _ _ (by rw[ZX (fun z=>A.disjR i a ha (by simp[z]))];exact q)
end
noncomputable def pGo(f:PV->Rr PV):PV->List Int->Rr PV
 |x,[]=>f x
 |.lst xs,c::cs=>match ixN xs.length c with
  |some n=>(pGo f (xs.getD n .non) cs).bind fun z=>.ok (.lst (xs.set n z))
  |none=>.bad
 |.tup xs,c::cs=>match ixN xs.length c with
  |some n=>(pGo f (xs.getD n .non) cs).bind fun z=>.ok (.tup (xs.set n z))
  |none=>.bad
 |_,_::_=>.bad
noncomputable def AtP(K:W.Frag)(H:Hp):V->List Int->V->Prop
 |v,[],u=>u=v
 |v,c::cs,u=>∃a vs w,v=.ref a/\(SqL K H a vs\/SqT K H a vs)/\atI vs c=some w/\AtP K H w cs u
section
variable {K:W.Frag}{H:Hp}
theorem AtP.snoc{u:V}{c:Int}:∀{cs:List Int}{v:V},AtP K H v (cs++[c]) u->∃w,AtP K H v cs w/\AtP K H w [c] u
 |[],v,h=>⟨v,rfl,h⟩
 |_::cs,v,h=>by
  obtain⟨a,vs,w,rfl,h1,h2,h3⟩:=h
  obtain⟨z,h4,h5⟩:=AtP.snoc h3
  exact⟨z,⟨a,vs,w,rfl,h1,h2,h4⟩,h5⟩
theorem Trees.part:∀{xs:List PV}{vs:List V}{G:List Addr}{j:Nat}{y:PV},Trees K H xs vs G->xs[j]?=some y->∃v G2,vs[j]?=some v/\Jg K H y v G2/\(∀a∈G2,a∈G) /\
  ∀(p:Addr) (us:List V) (o:HO) (y':PV) (G3:List Addr),H p=some (.lst us)->p∈G2->(∀a∈G3,a∈G2)->Jg K (upd H p o) y' v G3->∃G',(∀a∈G',a∈G)/\Trees K (upd H p o) (xs.set j y') vs G'
 |[],_,_,_,_,_,e=>by simp at e
 |x::xs,_,_,0,y,h,e=>by
  obtain⟨w,r,G1,G2,rfl,h1,h2,h3,rfl⟩:=h
  simp at e;subst e
  refine⟨w,G1,rfl,h1,fun a ha=>by simp[ha],fun p us o y' G3 hp hpG hs ht=>⟨G3++G2,fun a ha=>?_,w,r,G3,G2,rfl,ht,Trees.put hp (h3 p hpG) h2,fun a ha=>h3 a (hs a ha),rfl⟩⟩
  rcases ZsO.mp ha with z|z
  ·simp[hs a z]
  ·simp[z]
 |x::xs,_,_,j+1,y,h,e=>by
  obtain⟨w,r,G1,G2,rfl,h1,h2,h3,rfl⟩:=h
  obtain⟨v,G4,e1,e2,e3,e4⟩:=Trees.part h2 (j:=j) (by simpa using e)
  refine⟨v,G4,by simpa using e1,e2,fun a ha=>by simp[e3 a ha],fun p us o y' G3 hp hpG hs ht=>?_⟩
  obtain⟨G',c2,c3⟩:=e4 p us o y' G3 hp hpG hs ht
  refine⟨G1++G',fun a ha=>?_,w,r,G1,G',rfl,Jg.put hp (fun z=>h3 p z (e3 p hpG)) h1,c3,fun a ha z=>h3 a ha (c2 a z),rfl⟩
  rcases ZsO.mp ha with z|z
  ·simp[z]
  ·simp[c2 a z]
theorem Jg.chgP{j:Int}:∀{cs:List Int}{x x':PV}{v:V}{G:List Addr},Jg K H x v G->pGo (fun z=>pApp z (.int j)) x cs=.ok x' ->
  ∃p us,AtP K H v cs (.ref p)/\H p=some (.lst us)/\us.length<sizeLine/\p∈G/\∃G',(∀a∈G',a∈G)/\Jg K (upd H p (.lst (us++[.int j]))) x' v G'
 |[],x,x',v,G,h,e=>by
  have d:Dn (pApp x (.int j)) (fun y=>y=x') (fun _=>False):=by
   have e:pApp x (.int j)=.ok x':=by cases x<;>exact e
   rw[e];exact rfl
  obtain⟨ys,rfl,hlen,rfl⟩:=Dn.pApp d
  obtain⟨p,us,G4,rfl,hH,hu,hn,rfl⟩:=h
  refine⟨p,us,rfl,hH,by rw[hu.length];exact Ztb hlen (by decide),by simp,p::G4,fun b hb=>hb,p,_,G4,rfl,Z4, ?_,hn,rfl⟩
  have:=Trees.append (Trees.put (o:=.lst (us++[.int j])) hH hn hu) (Trees.one (x:=.int j) (v:=.int j) (F:=[]) ⟨rfl,rfl⟩) (by simp)
  rw[ZtS] at this
  exact this
 |c::cs,.lst xs,x',v,G,h,e=>by
  simp only[pGo] at e
  cases en:ixN xs.length c with
  |none=>rw[en] at e;cases e
  |some n =>
   rw[en] at e
   dsimp only at e
   cases ez:pGo (fun z=>pApp z (.int j)) (xs.getD n .non) cs with
   |bad=>rw[ez] at e;cases e
   |exc q=>rw[ez] at e;cases e
   |ok z =>
    rw[ez] at e
    cases e
    have hnl:=(Zbb en).2.1
    have hx:xs[n]?=some (xs.getD n .non):=by rw[ZsG,ZsH hnl];rfl
    obtain⟨a,vs,G1,rfl,ha,ht,hna,rfl⟩:=h
    obtain⟨w,G2,e1,e2,e3,e4⟩:=ht.part hx
    obtain⟨p,us,p1,p2,p3,p4,G3,p5,p6⟩:=Jg.chgP e2 ez
    obtain⟨G',c2,c3⟩:=e4 p us _ _ G3 p2 p4 p5 p6
    refine⟨p,us,⟨a,vs,w,rfl,.inl (SqL.of ha),by unfold atI;rw[ht.length,en];exact e1,p1⟩,p2,p3,by simp[e3 p p4],a::G',fun b hb=>?_,a,vs,G',rfl, ?_,c3,fun z=>hna (c2 a z),rfl⟩
    ·rcases ZsT.mp hb with rfl|hb
     ·simp
     ·simp[c2 b hb]
    ·rw[Zy (fun z=>hna (by rw[z];exact e3 p p4))];exact ha
 |c::cs,.tup xs,x',v,G,h,e=>by
  simp only[pGo] at e
  cases en:ixN xs.length c with
  |none=>rw[en] at e;cases e
  |some n =>
   rw[en] at e
   dsimp only at e
   cases ez:pGo (fun z=>pApp z (.int j)) (xs.getD n .non) cs with
   |bad=>rw[ez] at e;cases e
   |exc q=>rw[ez] at e;cases e
   |ok z =>
    rw[ez] at e
    cases e
    have hnl:=(Zbb en).2.1
    have hx:xs[n]?=some (xs.getD n .non):=by rw[ZsG,ZsH hnl];rfl
    obtain⟨a,vs,rfl,ha,ht⟩:=h
    obtain⟨w,G2,e1,e2,e3,e4⟩:=ht.part hx
    obtain⟨p,us,p1,p2,p3,p4,G3,p5,p6⟩:=Jg.chgP e2 ez
    obtain⟨G',c2,c3⟩:=e4 p us _ _ G3 p2 p4 p5 p6
    exact⟨p,us,⟨a,vs,w,rfl,.inr ha.sqT,by unfold atI;rw[ht.length,en];exact e1,p1⟩,p2,p3,e3 p p4,G',c2,a,vs,rfl,SqT.put p2 ha,c3⟩
 |_::_,.non,_,_,_,_,e=>by cases e
 |_::_,.bl _,_,_,_,_,e=>by cases e
 |_::_,.int _,_,_,_,_,e=>by cases e
 |_::_,.str _,_,_,_,_,e=>by cases e
 |_::_,.exc _,_,_,_,_,e=>by cases e
 |_::_,.exa _ _,_,_,_,_,e=>by cases e
 |_::_,.box _ _ _,_,_,_,_,e=>by cases e
 |_::_,.fz _,_,_,_,_,e=>by cases e
theorem Ze0(x y:PV)(e:PX):pApp x y≠.exc e:=by
 unfold pApp
 intro h
 split at h
 ·split at h<;>cases h
 ·cases h
theorem QA{f:PV->Rr PV}(hf:∀x e,f x≠.exc e):∀(cs:List Int) (x:PV) (e:PX),pGo f x cs≠.exc e
 |[],x,e=>by
  have:pGo f x []=f x:=by cases x<;>rfl
  rw[this];exact hf x e
 |c::cs,x,e=>by
  intro h
  cases x with
  |lst xs =>
   simp only[pGo] at h
   split at h
   ·rename_i n _
    cases ez:pGo f (xs.getD n .non) cs with
    |ok z=>rw[ez] at h;cases h
    |bad=>rw[ez] at h;cases h
    |exc q=>exact QA hf cs _ _ ez
   ·cases h
  |tup xs =>
   simp only[pGo] at h
   split at h
   ·rename_i n _
    cases ez:pGo f (xs.getD n .non) cs with
    |ok z=>rw[ez] at h;cases h
    |bad=>rw[ez] at h;cases h
    |exc q=>exact QA hf cs _ _ ez
   ·cases h
  |_=>cases h
def DPa(K:W.Frag)(Γ:List Md)(i:Nat)(tp:TE)(ix:List PV->Rr (List Int)):Prop:=(∀ρ e,ix ρ≠.exc e) /\
 ∀(B:Addr->Prop) (H0 H:Hp) (σ:St) (ρ:List PV) (F:Nat->List Addr) (R:List Addr) (cs:List Int) (v u:V) (Q:VK),Ag K B H0 H σ Γ ρ F R->ix ρ=.ok cs->σ[i]?=some (some v)->AtP K H v cs u->Q u H->tp σ H Q
variable {Γ Γ1 Γ2:List Md}{i:Nat}{tp:TE}{ix:List PV->Rr (List Int)}{EX:PX->Hp->Prop}{k:Kd}
theorem Zko:DPa K Γ i (Za9 i) (fun _=>.ok []):=⟨fun ρ e h=>(by cases h),fun B H0 H σ ρ F R cs v u Q A e hv h q=>by
 cases e
 cases h
 exact⟨v,hv,q⟩⟩
theorem ZiE{w u:V}{c:Int}{Q:VK}(h:AtP K H w [c] u)(q:Q u H):rIx K w (.int c) H Q:=by
 obtain⟨a,vs,z,rfl,hs,ha,rfl⟩:=h
 rcases hs with hs|hs
 ·exact .inl ⟨a,vs,c,u,rfl,rfl,hs,ha,q⟩
 ·exact .inr (.inl ⟨a,vs,c,u,rfl,rfl,hs,ha,q⟩)
theorem Zkq{c:Int}(h:DPa K Γ i tp ix):DPa K Γ i (tOp (rIx K) tp (tC (.int c))) (fun ρ=>(ix ρ).bind fun cs=>.ok (cs++[c])):=by
 refine⟨fun ρ e z=>?_,fun B H0 H σ ρ F R cs v u Q A e hv ha q=>?_⟩
 ·dsimp only at z
  cases ec:ix ρ with
  |bad=>rw[ec] at z;cases z
  |exc q=>exact h.1 ρ q ec
  |ok ds=>rw[ec] at z;cases z
 dsimp only at e
 cases ec:ix ρ with
 |bad=>rw[ec] at e;cases e
 |exc q=>rw[ec] at e;cases e
 |ok ds =>
  rw[ec] at e
  cases e
  obtain⟨w,h1,h2⟩:=ha.snoc
  exact h.2 B H0 H σ ρ F R ds v w _ A ec hv h1 (ZiE h2 q)
theorem Zkp{l:Nat}{m:Md}(hl:Γ[l]?=some m)(hm:m≠.U)(h:DPa K Γ i tp ix):DPa K Γ i (tOp (rIx K) tp (Za9 l)) (fun ρ=>(ix ρ).bind fun cs=>(asI (gv l ρ)).bind fun c=>.ok (cs++[c])):=by
 refine⟨fun ρ e z=>?_,fun B H0 H σ ρ F R cs v u Q A e hv ha q=>?_⟩
 ·dsimp only at z
  cases ec:ix ρ with
  |bad=>rw[ec] at z;cases z
  |exc q=>exact h.1 ρ q ec
  |ok ds =>
   rw[ec] at z
   cases eg:gv l ρ with
   |int c=>rw[eg] at z;cases z
   |_=>rw[eg] at z;cases z
 dsimp only at e
 cases ec:ix ρ with
 |bad=>rw[ec] at e;cases e
 |exc q=>rw[ec] at e;cases e
 |ok ds =>
  rw[ec] at e
  obtain⟨z,z1,z2⟩:=A.getA hl hm
  cases eg:gv l ρ with
  |int c =>
   rw[eg] at e
   cases e
   obtain⟨w,h1,h2⟩:=ha.snoc
   rw[show ρ.getD l .non=.int c from eg] at z2
   cases z2
   exact h.2 B H0 H σ ρ F R ds v w _ A ec hv h1 ⟨_,z1,ZiE h2 q⟩
  |_=>rw[eg] at e;cases e
theorem ZeE{j:Int}(hm:Γ[i]?=some .O)(hp:DPa K Γ i tp ix):DS K EX Γ ⟨Γ,Γ1,Γ2,k⟩ (ZgW (tBM K "list" Zc8 tp (UO (tC (.int j)) ZeV)))
  (fun ρ=>(ix ρ).thenS fun cs=>(pGo (fun z=>pApp z (.int j)) (gv i ρ) cs).thenS fun w=>.next (ρ.set i w)):=fun B H0 H σ ρ F D A d=>by
 have d1:=d.thenS
 cases ec:ix ρ with
 |bad=>rw[ec] at d1;exact d1.elim
 |exc q=>exact(hp.1 ρ q ec).elim
 |ok cs =>
  rw[ec] at d1
  have d2:=DnS.thenS d1
  obtain⟨v,h1,h2⟩:=A.getO hm
  cases ep:pGo (fun z=>pApp z (.int j)) (gv i ρ) cs with
  |bad=>rw[ep] at d2;exact d2.elim
  |exc q=>exact(QA (fun x e=>Ze0 _ _ e) _ _ _ ep).elim
  |ok w =>
   rw[ep] at d2
   obtain⟨p,us,p1,p2,p3,c1,G',c2,c3⟩:=Jg.chgP h2 ep
   refine hp.2 B H0 H σ ρ F [] cs v (.ref p) _ A ec h1 p1 ⟨.inl ⟨rfl,_,SqL.of p2⟩,p,us,.int j,rfl,rfl,p2,p3, ?_⟩
   exact d2 σ _ (Ul F i G') (QN (Z6.refl _) (fun _ _ h=>h) c1 fun b hb=>.inr ⟨i,c2 b hb⟩) (Ag.chg (G:=[]) A hm c1 (fun b hb=>.inl (c2 b hb)) (by simp) ⟨_,h1,c3⟩)
end
noncomputable def ZgM(ns:List Int):Int:=- ZiL (ns.map fun n=>-n)
theorem ZaT{ns:List Int}(h:ns≠[]):ZgM ns∈ns:=by
 have:=ZdP (ns:=ns.map fun n=>-n) (by simpa using h)
 obtain⟨n,h1,h2⟩:=ZsV.mp this
 unfold ZgM
 rw[<- h2,Int.neg_neg]
 exact h1
theorem ZcL{ns:List Int}{a:Int}(h:a∈ns):a<=ZgM ns:=by
 have:=ZfE (ns:=ns.map fun n=>-n) (ZsV.mpr ⟨a,h,rfl⟩)
 unfold ZgM
 omega
theorem ZfG{ns:List Int}{m:Int}(h1:m∈ns)(h2:∀a∈ns,a<=m):m=ZgM ns:=Int.le_antisymm (ZcL h1) (h2 _ (ZaT (List.ne_nil_of_mem h1)))
section
end
noncomputable def frz(m:Md):Md:=if m=.O\/m=.T then .S else m
section
variable {K:W.Frag}{B:Addr->Prop}{EX:PX->Hp->Prop}{H0 H H':Hp}{σ:St}{Γ:List Md}{ρ:List PV}{F:Nat->List Addr}{R:List Addr}{tt:TT}{c:List PV->Rr Bool}{te:TE}{fe:List PV->Rr PV}
theorem Ag.freezeAll(A:Ag K B H0 H σ Γ ρ F R):Ag K B H0 H σ (Γ.map frz) ρ (fun _=>[]) R:=by
 refine⟨A.same,A.own,by simp,A.youngR,by simp,A.liveR,by simp,by simp,by simp[A.lenS],by simp[A.lenR],fun i=>?_⟩
 have sl:=A.slot i
 have e:(Γ.map frz).getD i .U=frz (Γ.getD i .U):=by
  rw[ZsG,ZsG,ZsM]
  cases Γ[i]?<;>rfl
 rw[e]
 have up:∀{a},NO B F R a->NO B (fun _=>[]) R a:=fun {a} s=>⟨s.1,s.2.1,by simp⟩
 have ow:∀a∈F i,NO B (fun _=>[]) R a:=fun a ha=>⟨A.own a (A.young i a ha),A.disjR i a ha,by simp⟩
 cases hm:Γ.getD i .U with
 |U=>exact rfl
 |P=>rw[hm] at sl;exact⟨rfl,sl.2⟩
 |S =>
  rw[hm] at sl
  obtain⟨_,v,h1,h2⟩:=sl
  exact⟨rfl,v,h1,Rep.mono (fun a vs s r=>⟨r,up s⟩) (fun a vs r=>r) h2⟩
 |T =>
  rw[hm] at sl
  obtain⟨a,vs,xs,h1,h2,h3,h4,h5⟩:=sl
  refine⟨rfl,.ref a,h1, ?_⟩
  rw[h2]
  exact⟨a,vs,rfl,.inl ⟨.inl h3,ow a (by rw[h5];simp)⟩,Reps.mono (fun a vs s r=>⟨r,up s⟩) (fun a vs r=>r) h4⟩
 |O =>
  rw[hm] at sl
  obtain⟨v,h1,h2⟩:=sl
  exact⟨rfl,v,h1,h2.rep ow⟩
theorem ZcR{i:Nat}(hm:(Γ.map frz)[i]?=some .S)(ht:DT K EX (Γ.map frz++[.S]) (Γ.map frz++[.S]) tt c)(he:DE K EX (Γ.map frz++[.S]) (Γ.map frz++[.S]) .F te fe) :
  DE K EX Γ Γ .F (Q1 (ZfX K (Za9 i)) tB1 tt te) (fun ρ=>(asL (gv i ρ)).bind fun xs=>(lenM xs).bind fun _=>(Zbh (fun x=>(c (ρ++[x])).bind fun b=>if b=true then (fe (ρ++[x])).bind fun y=>.ok (some y) else .ok none) xs).bind fun ys=>.ok (.lst ys)):=fun B H0 H σ ρ F R Q A d=>by
 obtain⟨xs,exs,d⟩:=Dn.asL d.bind
 obtain⟨hlen,d⟩:=Dn.lenM d.bind
 have AF:=A.freezeAll
 obtain⟨v,h1,h2⟩:=AF.getS hm
 rw[show ρ.getD i .non=.lst xs from exs] at h2
 obtain⟨a,vs,rfl,hn,hr⟩:=id h2
 generalize hgx:(fun x=>(c (ρ++[x])).bind fun b=>if b=true then (fe (ρ++[x])).bind fun y=>Rr.ok (some y) else .ok none)=gx at d
 have l1:=AF.lenS
 have l2:=AF.lenR
 have hl:vs.length=xs.length:=hr.length
 refine⟨.ref a,h1,a,rfl,⟨vs,JC hn⟩, ?_⟩
 refine⟨fun k m ys H2=>∃zs G,m=xs.length-k/\k<=xs.length/\ys.length<=k/\Z6 H H2/\Trees K H2 zs ys G/\(∀b∈G,H b=none) /\
  Dn ((Zbh gx (xs.drop k)).bind fun ys'=>.ok (.lst (zs++ys'))) (fun x=>∀v H',Z6 H H'->Res K B H0 H σ Γ ρ F R .F x v H'->Q v H') (fun e=>∀H',Z6 H0 H'->EX e H'),
  ⟨xs.length,[],[],by simp,Zts _,ZsN _,Z6.refl _,⟨rfl,rfl⟩,by simp,by simpa using d⟩, ?_⟩
 rintro k m ys H2 ⟨zs,G,rfl,hk,hyl,s2,tr,fr,dn⟩
 have hsq:SqL K H2 a vs:=JC (S:=fun _=>True) (hn.elim (fun z=>.inl ⟨z.1.same s2,trivial⟩) .inr)
 refine⟨JD (by omega), ?_⟩
 cases hx:xs[k]? with
 |none =>
  have hge:=Zt1.mp hx
  refine .inl ⟨⟨vs,hsq,by omega⟩,fun p hp=>?_⟩
  have hd:xs.drop k=[]:=ZtM hge
  rw[hd] at dn
  have dn':∀v H',Z6 H H'->Res K B H0 H σ Γ ρ F R .F (.lst (zs++[])) v H'->Q v H':=dn
  rw[ZtS] at dn'
  exact dn' _ _ (s2.trans (Z6.new hp)) (Res.newF s2 (fun _ _ h=>h) tr (fun b hb=>⟨fun z=>(by
   obtain⟨us,q⟩:=A.liveR b z
   rw[fr b hb] at q;cases q),.inl (fr b hb)⟩) (A.more s2 fr tr.alive) hp)
 |some x =>
  have hlt:k<xs.length:=(ZsJ.mp hx).1
  have hdx:xs.drop k=x::xs.drop (k+1):=by
   rw[Zte hlt]
   rw[ZsH hlt] at hx;cases hx;rfl
  rw[hdx] at dn
  simp only[Zbh,Rr.assoc] at dn
  rw[<- hgx] at dn
  simp only[Rr.assoc] at dn
  rw[hgx] at dn
  obtain⟨w,hvk,hrep⟩:=hr.get hx
  refine .inr ⟨⟨vs,w,hsq,hvk⟩,fun ys' H'=>∃zs G,ys'.length<=k+1/\Z6 H H'/\Trees K H' zs ys' G/\(∀b∈G,H b=none) /\
   Dn ((Zbh gx (xs.drop (k+1))).bind fun ys'=>.ok (.lst (zs++ys'))) (fun x=>∀v H',Z6 H H'->Res K B H0 H σ Γ ρ F R .F x v H'->Q v H') (fun e=>∀H',Z6 H0 H'->EX e H'),
   fun ys' H' ⟨zs,G,a1,a2,a3,a4,a5⟩=>⟨xs.length-(k+1),by omega,zs,G,rfl,hlt,a1,a2,a3,a4,a5⟩,fun v H3 ⟨e3,yv⟩=>?_⟩
  subst e3
  have:=yv vs hsq
  rw[hvk] at this
  cases this
  have AG:=AF.more s2 fr tr.alive
  have rx:Rep K H3 (NO B (fun _=>[]) (G++R)) x w:=Rep.mono (fun b us s r=>⟨r.same s2,s.1,fun z=>by
   rcases ZsO.mp z with z|z
   ·rcases r with r|⟨o,r⟩
    ·rw[fr b z] at r;cases r
    ·rw[fr b z] at r;cases r
   ·exact s.2.1 z,s.2.2⟩) (fun b us r=>s2.im r) hrep
  refine⟨[w],rfl, ?_⟩
  have A3:=AG.push rx
  refine ht B H0 H3 _ _ _ (G++R) _ A3 (dn.bind.imp (fun b _ dn H4 F4 s4 f4 A4=>?_) fun e q=>q)
  cases b with
  |false =>
   rw[if_neg Bool.false_ne_true] at dn ⊢
   simp only[Rr.bind_ok,Zu2] at dn
   refine⟨zs,G,by omega,s2.trans s4,tr.same s4,fr, ?_⟩
   simp only[Rr.assoc,Rr.bind_ok,ZtP] at dn
   exact dn
  |true =>
   rw[if_pos rfl] at dn ⊢
   simp only[Rr.assoc] at dn
   refine he B H0 H4 _ _ F4 (G++R) _ A4 (dn.bind.imp (fun z _ dn w' H5 s5 r5=>?_) fun e q=>q)
   obtain⟨F5,f5,G5,t5,o5,A5⟩:=r5
   refine⟨zs++[z],G++G5,by simp;omega,(s2.trans s4).trans s5,Trees.append ((tr.same s4).same s5) (Trees.one t5) (fun b hb z=>(o5 b z).1 (ZsQ _ hb)),fun b hb=>?_, ?_⟩
   ·rcases ZsO.mp hb with z|z
    ·exact fr b z
    ·rcases (o5 b z).2 with q|⟨j,q⟩
     ·exact(s2.trans s4).free q
     ·exact absurd (f4 j b q) (by simp)
   ·simp only[Rr.assoc,Rr.bind_ok,Zu2,ZsS,ZtU] at dn ⊢
    exact dn
end
end L2
namespace HL
open PySem PyProof.Rows
section
open PySem.SeqAt
open PySem.AutoSeq1 (wpAny_loadPart')
open PySem.MeetsSeq PySem.MeetsSeq2 PySem.MeetsSeq3 SeqRoads2
end
section
end
end HL
namespace L2
open PySem PySem.Spec PyProof.Rows
section
end
def G0(K:W.Frag)(B:Addr->Prop)(H0 H:Hp)(σ:St)(Γb:List Md)(ρ:List PV)(L v:Nat)(a:Addr)(vs:List V)(xs:List PV)(G Gx:List Addr):Prop:=
 Ag K B H0 H σ Γb ρ (fun _=>[]) (a::(G++Gx))/\σ[L]?=some (some (.ref a))/\gv L ρ=.lst xs/\H a=some (.lst vs)/\Trees K H xs vs G/\a ∉ G/\∃w,σ[v]?=some (some w)/\vs[0]?=some w/\xs[0]?=some (gv v ρ)
section
end
theorem ZdX{α β:Type}{f:α->Rr β}:∀{xs:List α},Zbh (fun x=>(f x).bind fun y=>.ok (some y)) xs=ZaV f xs
 |[]=>rfl
 |x::xs=>by
  simp only[Zbh,ZaV,Rr.assoc,ZdX (xs:=xs),Rr.bind_ok,Zu2,ZtU]
section
variable {K:W.Frag}{EX:PX->Hp->Prop}{Γ Γ1:List Md}{te:TE}{fe:List PV->Rr PV}
theorem J5{wi:TI}{fi:List PV->Rr (List PV)}(hi:DIc K EX Γ Γ1 wi fi)(he:DE K EX (Γ1++[.S]) (Γ1++[.S]) .F te fe) :
  DE K EX Γ Γ1 .F (Q1 wi tB1 ZkN te) (fun ρ=>(fi ρ).bind fun xs=>(lenM xs).bind fun _=>(ZaV (fun x=>fe (ρ++[x])) xs).bind fun ys=>.ok (.lst ys)):=by
 have h:=Va (k:=1) hi Zku Zca he
 simp only[Rr.bind_ok,if_true,ZdX] at h
 exact h
variable {X:Cx}{scope:Scope}{x y:Str}{elt iter:Expr}{pos px py spos:Pos}{wi:TI}{i:Nat}
theorem JW(hi:PI X (.Name x px) iter wi)(he:∀C s₂ H₂ ex,PE (Uf X scope [x] C ex s₂ H₂) elt te)(hNd:X.N.Nodup)(hc:X.calm=true)(hclos:closureFor scope X.env=pure (Zai scope X.env):=by rfl)(hchk:JE X.N X.env.scope scope [x]=true:=by rfl)(hs:∀x,foldedSetIterable iter X.env x=pure x:=by exact fun _=>rfl) :
  PE X (.ListComp elt [⟨.Name x px,iter,[],0⟩] scope pos) (Q1 wi tB1 ZkN te):=VN hi (Vs hNd hchk) (fun _ _ _ _=>Zaq) he hv1 hNd hc hclos hchk hs
theorem Q6(hN:X.N.Nodup)(hi:X.N[i]?=some y)(hit:PI X (.Name x px) iter wi)(he:∀C s₂ H₂ ex,PE (Uf X scope [x] C ex s₂ H₂) elt te)(hc:X.calm=true)(hsw:swapsWith (.ListComp elt [⟨.Name x px,iter,[],0⟩] scope pos) (some (.Name y py)) spos.line X.env=pure true:=by rfl)(hy:X.env.scope.names.lookup y=some .local:=by rfl)(hclos:closureFor scope X.env=pure (Zai scope X.env):=by rfl)(hchk:JE X.N X.env.scope scope [x]=true:=by rfl)(hs:∀x,foldedSetIterable iter X.env x=pure x:=by exact fun _=>rfl) :
  PS X (.Assign [.Name y py] (.ListComp elt [⟨.Name x px,iter,[],0⟩] scope pos) spos) (Q0 i wi tB1 ZkN te):=Vq hN hi hit (Vs hN hchk) (fun _ _ _ _=>Zaq) he hv1 hc hsw hy hclos hchk hs
end
section
open Builtin Builtin.Str
end
section
variable {K:W.Frag}{B:Addr->Prop}{EX:PX->Hp->Prop}{H0 H:Hp}{σ:St}{Γ Γ':List Md}{ρ:List PV}{F:Nat->List Addr}{R:List Addr}
theorem Zgs{ta:TA}{fa:List PV->Rr (List PV)}(ha:DAA K EX Γ Γ' ta fa):DE K EX Γ Γ' .A (ZmF ta) (fun ρ=>(fa ρ).bind mkL):=fun B H0 H σ ρ F R Q A d=>by
 refine ha B H0 H σ ρ F R _ A (d.bind.imp (fun xs _ d vs H1 F1 s1 f1 p1 A1=>?_) fun e q=>q)
 obtain⟨hl,d⟩:=Dn.mkL d
 refine⟨by rw[p1.length];exact Qq hl,fun p hp=>?_⟩
 have e:=Z6.new (H:=H1) (o:=.lst vs) hp
 exact d _ _ (s1.trans e) ⟨F1,f1,⟨p,vs,rfl,.inl ⟨.inl Z4,trivial⟩,p1.same e⟩,A1.grow e⟩
end
section
variable {κ:Type} [DecidableEq κ]
noncomputable def ZeQ(kvs:List (κ×V))(k:κ):Option V:=(kvs.find? fun kv=>decide (kv.1=k)).map (·.2)
noncomputable def ZeL(kvs:List (κ×V))(k:κ)(v:V):List (κ×V):=
 if (kvs.any fun kv=>decide (kv.1=k))=true then kvs.map (fun kv=>if kv.1=k then (kv.1,v) else kv) else kvs++[(k,v)]
theorem Qc{p:κ×V}{r:List (κ×V)}{k:κ}(e:p.1=k):ZeQ (p::r) k=some p.2:=by simp[ZeQ,Zun,e]
theorem Qd{p:κ×V}{r:List (κ×V)}{k:κ}(e:¬p.1=k):ZeQ (p::r) k=ZeQ r k:=by simp[ZeQ,Zun,e]
theorem Zdo(k:κ):∀kvs:List (κ×V),(kvs.any fun kv=>decide (kv.1=k))=(ZeQ kvs k).isSome
 |[]=>rfl
 |p::r=>by
  rw[Zuo]
  by_cases e:p.1=k
  ·simp only[Qc e,decide_eq_true e,Bool.true_or,ZuS]
  ·rw[Qd e,decide_eq_false e,Bool.false_or];exact Zdo k r
theorem QH(kvs:List (κ×V))(k:κ)(v:V):(ZeL kvs k v).length<=kvs.length+1:=by
 unfold ZeL
 split
 ·rw[ZsI];omega
 ·rw[Ztw,Ztq,Zu3];omega
theorem ZgQ.isSome_eq{o:Option V}{u:Option Value}(r:ZgQ o u):o.isSome=u.isSome:=by
 cases o with
 |none=>cases u with
  |none=>rfl
  |some _=>exact(show False from r).elim
 |some _=>cases u with
  |none=>exact(show False from r).elim
  |some _=>rfl
theorem KV.val{kvs:List (κ×V)}{vs:List (κ×Value)}(r:KV kvs vs)(k:κ):ZgQ (ZeQ kvs k) (valueAt vs k):=by
 unfold KV at r
 induction r with
 |nil=>exact True.intro
 |@cons p q ps qs h t ih =>
  obtain⟨h1,h2⟩:=h
  by_cases e:p.1=k
  ·have e':q.1=k:=h1.symm.trans e
   have b:valueAt (q::qs) k=some q.2:=by simp[valueAt,Zun,e']
   rw[Qc e,b];exact h2
  ·have e':¬q.1=k:=fun z=>e (h1.trans z)
   have b:valueAt (q::qs) k=valueAt qs k:=by simp[valueAt,Zun,e']
   rw[Qd e,b];exact ih
theorem KV.any{kvs:List (κ×V)}{vs:List (κ×Value)}(r:KV kvs vs)(k:κ):(kvs.any fun kv=>decide (kv.1=k))=vs.any fun kv=>decide (kv.1=k):=by
 unfold KV at r
 induction r with
 |nil=>rfl
 |cons h t ih=>rw[Zuo,Zuo,ih,h.1]
theorem KV.repl{kvs:List (κ×V)}{vs:List (κ×Value)}(r:KV kvs vs)(k:κ){y:V}{u:Value}(ry:Jo y u) :
  KV (kvs.map fun kv=>if kv.1=k then (kv.1,y) else kv) (vs.map fun kv=>if kv.1=k then (kv.1,u) else kv):=by
 unfold KV at r ⊢
 induction r with
 |nil=>exact .nil
 |@cons p q ps qs h t ih =>
  rw[ZsW,ZsW]
  refine .cons ?_ ih
  obtain⟨h1,h2⟩:=h
  by_cases e:p.1=k
  ·rw[if_pos e,if_pos (h1.symm.trans e)];exact⟨h1,ry⟩
  ·rw[if_neg e,if_neg (fun z=>e (h1.trans z))];exact⟨h1,h2⟩
theorem KV.put{kvs:List (κ×V)}{vs:List (κ×Value)}(r:KV kvs vs)(k:κ){y:V}{u:Value}(ry:Jo y u):KV (ZeL kvs k y) (stored vs k u):=by
 unfold ZeL stored
 rw[r.any k]
 by_cases e:(vs.any fun kv=>decide (kv.1=k))=true
 ·rw[if_pos e,if_pos e];exact r.repl k ry
 ·rw[if_neg e,if_neg e];exact Paired.snoc r ⟨rfl,ry⟩
theorem KV.length{kvs:List (κ×V)}{vs:List (κ×Value)}(r:KV kvs vs):kvs.length=vs.length:=Paired.length r
end
theorem ZhI{P:Program}{w:World}{k:Key}{u:Value}(r:Jo (kV k) u):(Js P w).is k u=true:=by
 cases k with
 |inl i=>obtain⟨t,e⟩:=(show ∃t,u=Value.int i t from r);subst e;exact ZcH P w i t
 |inr x=>obtain⟨t,e⟩:=(show ∃t,u=Value.str x t from r);subst e;exact ZcG P w x t
theorem ZbR{P:Program}{w:World}:∀{ks:List Key}{us:List Value},ZY (ks.map kV) us->ItemsAre (Js P w) ks us
 |[],_,r=>by rw[Zua] at r;cases r;exact .nil
 |k::ks,_,r=>by
  rw[ZsW] at r
  cases r with
  |cons h t=>exact .cons (ZhI h) (ZbR t)
noncomputable abbrev KT(H:Hp):List (List Key×V)->List (List Key×Addr×Value)->Prop:=Paired fun p q=>p.1=q.1/\H q.2.1=some (.tup (p.1.map kV))/\Jo p.2 q.2.2
theorem KT.val{H:Hp}{kvs:List (List Key×V)}{xs:List (List Key×Addr×Value)}(r:KT H kvs xs)(k:List Key):ZgQ (ZeQ kvs k) ((atKey xs k).map (·.2)):=by
 induction r with
 |nil=>exact True.intro
 |@cons p q ps qs h t ih =>
  obtain⟨h1,_,h2⟩:=h
  by_cases e:p.1=k
  ·have e':q.1=k:=h1.symm.trans e
   have b:atKey (q::qs) k=some q.2:=by simp[atKey,Zun,e']
   rw[Qc e,b];exact h2
  ·have e':¬q.1=k:=fun z=>e (h1.trans z)
   have b:atKey (q::qs) k=atKey qs k:=by simp[atKey,Zun,e']
   rw[Qd e,b];exact ih
theorem KT.repl{H:Hp}{kvs:List (List Key×V)}{xs:List (List Key×Addr×Value)}(r:KT H kvs xs)(k:List Key){y:V}{u:Value}(ry:Jo y u) :
  KT H (kvs.map fun kv=>if kv.1=k then (kv.1,y) else kv) (xs.map (putAt k u)):=by
 induction r with
 |nil=>exact .nil
 |@cons p q ps qs h t ih =>
  rw[ZsW,ZsW]
  refine .cons ?_ ih
  obtain⟨h1,h2,h3⟩:=h
  unfold putAt
  by_cases e:p.1=k
  ·rw[if_pos e,if_pos (h1.symm.trans e)];exact⟨h1,h2,ry⟩
  ·rw[if_neg e,if_neg (fun z=>e (h1.trans z))];exact⟨h1,h2,h3⟩
theorem KT.put{H:Hp}{kvs:List (List Key×V)}{xs:List (List Key×Addr×Value)}(r:KT H kvs xs)(k:List Key){b:Addr}{y:V}{u:Value}(hb:H b=some (.tup (k.map kV)))(ry:Jo y u) :
  KT H (ZeL kvs k y) (storedH xs k b u):=by
 have e:(kvs.any fun kv=>decide (kv.1=k))=(atKey xs k).isSome:=by
  rw[Zdo,(r.val k).isSome_eq,Option.isSome_map]
 unfold ZeL storedH
 rw[e]
 by_cases q:(atKey xs k).isSome=true
 ·rw[if_pos q,if_pos q];exact r.repl k ry
 ·rw[if_neg q,if_neg q];exact Paired.snoc r ⟨rfl,hb,ry⟩
theorem KT.keeps{H H':Hp}{kvs:List (List Key×V)}{xs:List (List Key×Addr×Value)}(r:KT H kvs xs)(ht:∀b ys,H b=some (.tup ys)->H' b=some (.tup ys)):KT H' kvs xs:=
 Paired.mapP r fun _ _ z=>⟨z.1,ht _ _ z.2.1,z.2.2⟩
section
variable {P:Program}{w:World}{H:Hp}{h:Heap}{a:Addr}
theorem Zfk{u:HO}(ok:HOk P w H h)(e:Rd H a u):JG P w H h a u:=e.ok ok
theorem Zid{kvs:List (Key×V)}(ok:HOk P w H h)(e:Rd H a (.dK kvs)):kvs.length<=sizeLine/\(a==sysModules)=false/\∃vs,KV kvs vs/\h.DictOf (Js P w) a vs:=
 show JG P w H h a (.dK kvs) from Zfk ok e
theorem Zne{kvs:List (Key×V)}(ok:HOk P w H h)(e:H a=some (.dK kvs)):kvs.length<=sizeLine/\(a==sysModules)=false/\∃vs,KV kvs vs/\h.DictOf (Js P w) a vs:=Zid ok (.inl e)
theorem ZbQ{ks:List Key}(ok:HOk P w H h)(e:H a=some (.tup (ks.map kV))):(tupleKind (Js P w)).is h ks a:=by
 obtain⟨_,its,r,o,h1,h2,n,h3⟩:=(show JG P w H h a (.tup (ks.map kV)) from ok a _ e)
 exact⟨o,its.toArray,n,h1,h2,h3,by simpa using ZbR r⟩
theorem Zia{kvs:List (List Key×V)}(ok:HOk P w H h)(e:Rd H a (.dT kvs)):kvs.length<=sizeLine/\(a==sysModules)=false /\
  ∃xs,KT H kvs xs/\h.DictOfH (tupleKind (Js P w)) a xs:=by
 obtain⟨z,y,xs,r,o,es,ep,h1,h2,h3,h4,h5⟩:=(show JG P w H h a (.dT kvs) from Zfk ok e)
 refine⟨z,y,xs,r,o,es,ep,h1,h2,h3,h4,fun x hx=>?_,h5⟩
 have all:∀{l:List (List Key×V)}{m:List (List Key×Addr×Value)},KT H l m->∀x∈m,(tupleKind (Js P w)).is h x.1 x.2.1:=by
  intro l m q
  induction q with
  |nil=>intro x hx;exact nomatch hx
  |@cons p q ps qs hq t ih =>
   intro x hx
   rcases ZsT.mp hx with e|hx
   ·subst e
    exact ZbQ ok (by rw[<- hq.1];exact hq.2.1)
   ·exact ih x hx
 exact all r x hx
theorem ZlY{kvs:List (List Key×V)}(ok:HOk P w H h)(e:H a=some (.dT kvs)):kvs.length<=sizeLine/\(a==sysModules)=false /\
  ∃xs,KT H kvs xs/\h.DictOfH (tupleKind (Js P w)) a xs:=Zia ok (.inl e)
end
def ZkE(H:Hp)(a:Addr)(y:V)(r:Option V):Prop:=
 (∃kvs k,Rd H a (.dK kvs)/\y=kV k/\r=ZeQ kvs k)\/∃kvs k b,Rd H a (.dT kvs)/\y=.ref b/\H b=some (.tup (k.map kV))/\r=ZeQ kvs k
def ZnE(H:Hp)(a:Addr)(y v:V)(H':Hp):Prop:=
 (∃kvs k,H a=some (.dK kvs)/\y=kV k/\kvs.length<sizeLine/\H'=upd H a (.dK (ZeL kvs k v))) \/
 ∃kvs k b,H a=some (.dT kvs)/\y=.ref b/\H b=some (.tup (k.map kV))/\kvs.length<sizeLine/\H'=upd H a (.dT (ZeL kvs k v))
section
variable {X:Cx}{pins:List (Addr×Obj)}{σ:St}{H:Hp}{s:Shared}{a:Addr}{y v:V}{u r:Value}{o:Option V}{A:Around}{E:Value->Shared->Prop}
theorem Inv.big(I:Inv X pins σ H s):sysModules<s.heap.objs.size:=by
 have h:mainGlobals<s.heap.objs.size:=(I.mod.glob.keeps I.bk).lt
 exact Nat.lt_trans (by decide) h
theorem Zgx{Q:Value->Shared->Prop}(hu:A.units+1<cLine)(I:Inv X pins σ H s)(g:ZkE H a y (some v))(ry:Jo y u)(h:∀w' s',Inv X pins σ H s'->Jo v w'->Q w' s') :
  wpAny (model X.prog X.w) A (getItem (.ref a) u) Q E s:=by
 rcases g with ⟨kvs,k,e,ey,l⟩|⟨kvs,k,b,e,ey,eb,l⟩
 ·subst ey
  obtain⟨z,hd,vs,rel,dd⟩:=Zid I.hok e
  obtain⟨w',hw,rw'⟩:=ZgQ.some_of (v:=v) (o:=valueAt vs k) (by rw[l];exact rel.val k)
  exact wpAny_getItem_of (ZhI ry) dd.mapOf hw (h w' _ (I.tok _) rw')
 ·subst ey
  cases (show u=Value.ref b from ry)
  obtain⟨z,hd,xs,rel,dd⟩:=Zia I.hok e
  obtain⟨w',hw,rw'⟩:=ZgQ.some_of (v:=v) (o:=(atKey xs k).map (·.2)) (by rw[l];exact rel.val k)
  obtain⟨p,hp,hp2⟩:=ZtD.mp hw
  refine wpAny_getItem_heap (tupleKind_room_in1 hu) (ZbQ I.hok eb) dd hp ?_
  rw[hp2]
  exact h w' _ (I.tok _) rw'
theorem Zky{Q:Value->Shared->Prop}(hu:A.units+1<cLine)(I:Inv X pins σ H s)(g:ZkE H a y o)(ry:Jo y u)(h:∀s',Inv X pins σ H s'->Q (.bool (!o.isSome)) s') :
  wpAny (model X.prog X.w) A (compareOp .NotIn u (.ref a)) Q E s:=by
 rcases g with ⟨kvs,k,e,ey,l⟩|⟨kvs,k,b,e,ey,eb,l⟩
 ·subst ey
  obtain⟨z,hd,vs,rel,dd⟩:=Zid I.hok e
  refine wpAny_notIn_of (ZhI ry) hd dd.mapOf ?_
  rw[<- (rel.val k).isSome_eq,<- l]
  exact h _ (I.tok _)
 ·subst ey
  cases (show u=Value.ref b from ry)
  obtain⟨z,hd,xs,rel,dd⟩:=Zia I.hok e
  refine wpAny_notIn_heap (tupleKind_room_in1 hu) (ZbQ I.hok eb) hd dd ?_
  have q:=(rel.val k).isSome_eq
  rw[Option.isSome_map] at q
  rw[<- q,<- l]
  exact h _ (I.tok _)
theorem ZcT{h':Heap}{t':Nat}{ob:HO}(I:Inv X pins σ H s)(mu:Mut (H a))(hs:Heap.SameBut a s.heap h')(he:∃q,h'.get? a=some q)(new:JG X.prog X.w (upd H a ob) h' a ob) :
  Inv X pins σ (upd H a ob) { s with heap:=h',toks:=t' }:=
 I.write (x:=a) (e:=a) mu (.inl rfl) (fun b q hb z=>(hs.2 b hb).trans z) he new
theorem ZlZ{P:Program}{w:World}{H':Hp}{h':Heap}{kvs:List (Key×V)}{vs:List (Key×Value)}(z:kvs.length<=sizeLine)(hd:(a==sysModules)=false)(rel:KV kvs vs)(dd:h'.DictOf (Js P w) a vs) :
  JG P w H' h' a (.dK kvs):=⟨z,hd,vs,rel,dd⟩
theorem Zgw{H':Hp}{Q:Unit->Shared->Prop}(hu:A.units+1<cLine)(I:Inv X pins σ H s)(g:ZnE H a y v H')(ry:Jo y u)(rv:Jo v r)(h:∀s',Inv X pins σ H' s'->Q () s') :
  wpAny (model X.prog X.w) A (setItem (.ref a) u r) Q E s:=by
 rcases g with ⟨kvs,k,e,ey,l,eH⟩|⟨kvs,k,b,e,ey,eb,l,eH⟩
 ·subst ey eH
  obtain⟨z,hd,vs,rel,dd⟩:=Zne I.hok e
  have hz:vs.length<=sizeLine:=by rw[<- rel.length];exact z
  have hl:(ZeL kvs k v).length<=sizeLine:=by have:=QH kvs k v;omega
  refine wpAny_setItem_pairs (hsz:=hz) (ZhI ry) dd fun h' dd' hs=>h _ ?_
  have he:∃q,h'.get? a=some q:=let ⟨q,_,_,hq,_⟩:=dd';⟨q,hq⟩
  exact ZcT I (by rw[e];exact True.intro) hs he (ZlZ hl hd (rel.put k rv) dd')
 ·subst ey eH
  cases (show u=Value.ref b from ry)
  obtain⟨z,hd,xs,rel,dd⟩:=ZlY I.hok e
  have hz:xs.length<=sizeLine:=by rw[<- Paired.length rel];exact z
  have hl:(ZeL kvs k v).length<=sizeLine:=by have:=QH kvs k v;omega
  refine wpAny_setItem_heap (hsz:=hz) (tupleKind_room_in1 hu) (ZbQ I.hok eb) dd fun h' dd' hs=>h _ ?_
  obtain⟨q,es,ep,hq,h2,h3,h4,_,h5⟩:=dd'
  refine ZcT I (by rw[e];exact True.intro) hs ⟨q,hq⟩ ⟨hl,hd,_,(rel.put k eb rv).keeps fun c ys ec=>?_,q,es,ep,hq,h2,h3,h4,h5⟩
  rw[Zy (ZjT ec e (fun z=>nomatch z))]
  exact ec
end
def ZnD(i:Expr):Prop:=∀ov iv,subscripted i false ov iv=operate [ov,iv] (getItem ov iv)
theorem Zjq{prog:Program}{w:World}{A:Around}{E:Value->Shared->Prop}{s:Shared}{env:Env}{value slice:Expr}{pos:Pos}{T id:String}{Q:Value->Shared->Prop}(hl:typeLookup (.type T) "__getitem__"=pure (some (.builtin id)))(hs:ZnD slice)(h:wpAny (model prog w) A (eval value env) (fun o s₁=>wpAny (model prog w) A (eval slice env) (fun i s₂=>s₂.TypeIs o T/\wpAny (model prog w) A (getItem o i) Q E s₂) E s₁) E s) :
  wpAny (model prog w) A (eval (.Subscript value slice pos) env) Q E s:=by
 refine Subscript_ (wpAny_mono h (fun o s₁ h₁=>wpAny_mono h₁ (fun i s₂ h₂=>?_) fun _ _ x=>x) fun _ _ x=>x)
 obtain⟨hT,h₂⟩:=h₂
 unfold subscriptTail
 refine wpAny_bind ?_
 rw[getitemInPython_of_ne hT.not_modules]
 refine wpAny_bind (wpAny_specialOf hT hl ?_)
 have fin:wpAny (model prog w) A (subscripted slice false o i) (fun r s₃=>wpAny (model prog w) A (letTemporaryGo value o r >>= fun _=>pure r) Q E s₃) E s₂:=by
  rw[hs o i]
  exact wpAny_operating (wpAny_mono h₂ (fun r s₃ h₃=>wpAny_bind (wpAny_letTemporaryGo (wpAny_pure h₃))) fun _ _ x=>x)
 first
  |exact wpAny_pure (wpAny_bind fin)
  |exact wpAny_bind (wpAny_pure (wpAny_bind fin))
  |exact wpAny_bind fin
theorem ZcQ{X:Cx}{pins:List (Addr×Obj)}{σ:St}{H:Hp}{s:Shared}{a:Addr}{y:V}{o:Option V}(I:Inv X pins σ H s)(g:ZkE H a y o):s.TypeIs (.ref a) "dict":=by
 rcases g with ⟨kvs,k,e,_,_⟩|⟨kvs,k,b,e,_,_,_⟩
 ·obtain⟨_,_,vs,_,dd⟩:=Zid I.hok e
  exact dd.typeIs
 ·obtain⟨_,_,xs,_,dd⟩:=Zia I.hok e
  exact dd.typeIs
noncomputable def ZkT(td ty:TE):TE:=fun σ H Q=>td σ H fun x H1=>ty σ H1 fun y H2=>∃a v,x=.ref a/\ZkE H2 a y (some v)/\Q v H2
noncomputable def ZeY(ty td:TE):TE:=fun σ H Q=>ty σ H fun y H1=>td σ H1 fun x H2=>∃a o,x=.ref a/\ZkE H2 a y o/\Q (.bl (!o.isSome)) H2
noncomputable def Zlc(td ty tv:TE):TS:=fun D σ H=>tv σ H fun v H1=>td σ H1 fun x H2=>ty σ H2 fun y H3=>∃a H4,x=.ref a/\ZnE H3 a y v H4/\D.nx σ H4
section
variable {X:Cx}{o i value:Expr}{pos pos':Pos}{td ty tv:TE}
theorem Uk(hu:X.A.units+1<cLine)(ho:PE X o td)(hi:PE X i ty)(hs:ZnD i):PE X (.Subscript o i pos) (ZkT td ty):=by
 intro pins s σ H Q I h
 refine Zjq PySem.F.slot_dict_getitem.lookup hs (thn (ho pins s σ H _ I h) fun u s1 ⟨x,H1,I1,rx,q1⟩=>thn (hi pins s1 σ H1 _ I1 q1) fun iv s2 ⟨y,H2,I2,ry,a,v,ex,g,q2⟩=>?_)
 subst ex
 obtain rfl:u=Value.ref a:=rx
 exact⟨ZcQ I2 g,Zgx hu I2 g ry fun w' s3 I3 rw'=>⟨v,H2,I3,rw',q2⟩⟩
theorem Q7(hu:X.A.units+1<cLine)(hi:PE X i ty)(ho:PE X o td):PC X .NotIn i o (ZeY ty td):=by
 intro pins s σ H Q I h
 refine thn (hi pins s σ H _ I h) fun iv s1 ⟨y,H1,I1,ry,q1⟩=>thn (ho pins s1 σ H1 _ I1 q1) fun u s2 ⟨x,H2,I2,rx,a,ov,ex,g,q2⟩=>?_
 subst ex
 obtain rfl:u=Value.ref a:=rx
 exact Zky hu I2 g ry fun s3 I3=>⟨.bl (!ov.isSome),H2,I3,rfl,q2⟩
theorem ZaJ(hu:X.A.units+1<cLine)(ho:PE X o td)(hi:PE X i ty)(hv:PE X value tv)(hs:swapsWith value (some (.Subscript o i pos')) pos.line X.env=pure false) :
  PS X (.Assign [.Subscript o i pos'] value pos) (Zlc td ty tv):=by
 intro pins s σ H D I h
 refine wpAny_Assign_Subscript (thn (hv pins s σ H _ I h) fun r s1 ⟨v,H1,I1,rv,q1⟩=>thn (ho pins s1 σ H1 _ I1 q1) fun u s2 ⟨x,H2,I2,rx,q2⟩=>thn (hi pins s2 σ H2 _ I2 q2) fun iv s3 ⟨y,H3,I3,ry,a,H4,ex,g,q3⟩=>?_) hs
 subst ex
 obtain rfl:u=Value.ref a:=rx
 exact Zgw hu I3 g ry rv fun s4 I4=>⟨σ,H4,I4,q3⟩
end
theorem ZdZ{P:Program}{w:World}{H:Hp}(h:Heap)(hb:sysModules<h.objs.size):JG P w H (h.push { cls:=.type "dict",data:=.dict #[] }) h.objs.size (.dT []):=
 ⟨Zts _,beq_eq_false_iff_ne.mpr (Ne.symm (Ztm hb)),[],.nil,_,#[],0,Heap.get?_push_size _ rfl,⟨rfl,rfl,rfl⟩,rfl,rfl,List.nodup_nil⟩
noncomputable def Zi5:TE:=fun _ H Q=>∀p,H p=none->Q (.ref p) (upd H p (.dT []))
section
variable {X:Cx}{pos:Pos}
theorem Zd9:PE X (.Dict [] [] pos) Zi5:=fun pins s σ H Q I h =>
 wpAny_Dict_empty ⟨.ref s.heap.objs.size,_,I.laid (a:=s.heap.objs.size) (o:=.dT []) (t':=s.toks) (fun _ _ q=>Heap.get?_push_of_some _ q) (ZsN _) (ZdZ s.heap I.big),rfl,h _ (I.hok.fresh (ZsN _))⟩
end
noncomputable def Zdu:List (TE×TE)->St->Hp->(List (V×V)->Hp->Prop)->Prop
 |[],_,H,Q=>Q [] H
 |(tk,tv)::r,σ,H,Q=>tk σ H fun x H1=>tv σ H1 fun y H2=>Zdu r σ H2 fun ps H3=>Q ((x,y)::ps) H3
noncomputable abbrev VV:List (V×V)->List (Value×Value)->Prop:=Paired fun p q=>Jo p.1 q.1/\Jo p.2 q.2
def PPs(X:Cx)(pos:Pos)(keys:List (Option Expr))(values:List Expr)(trs:List (TE×TE)):Prop:=
 ∀(pins:List (Addr×Obj)) (s:Shared) (σ:St) (H:Hp) (Q:List (V×V)->Hp->Prop),Inv X pins σ H s->Zdu trs σ H Q ->
  wpAny (model X.prog X.w) X.A (evalPairs (pairTrees keys values X.env pos)) (fun vs s'=>∃ps H',Inv X pins σ H' s'/\VV ps vs/\Q ps H') X.xe s
theorem Zj6{X:Cx}{pos:Pos}:PPs X pos [] [] []:=fun pins s σ H Q I h=>pairTrees_nil_walk ⟨[],H,I,.nil,h⟩
theorem Zhj{X:Cx}{pos:Pos}{k v:Expr}{ks:List (Option Expr)}{vs:List Expr}{tk tv:TE}{trs:List (TE×TE)}(hk:PE X k tk)(hv:PE X v tv)(hr:PPs X pos ks vs trs) :
  PPs X pos (some k::ks) (v::vs) ((tk,tv)::trs):=fun pins s σ H Q I h =>
 pairTrees_cons_walk (thn (hk pins s σ H _ I h) fun u s1 ⟨x,H1,I1,rx,q1⟩=>thn (hv pins s1 σ H1 _ I1 q1) fun w2 s2 ⟨y,H2,I2,ry,q2⟩ =>
  thn (hr pins s2 σ H2 _ I2 q2) fun ws s3 ⟨ps,H3,I3,rel,q3⟩=>⟨(x,y)::ps,H3,I3,.cons ⟨rx,ry⟩ rel,q3⟩)
section
end
noncomputable def ZdS:Key->PV
 |.inl i=>.int i
 |.inr x=>.str x
noncomputable def Ze5:PV->Option Key
 |.int i=>some (.inl i)
 |.str x=>some (.inr x)
 |_=>none
noncomputable def UB:List PV->Option (List Key)
 |[]=>some []
 |x::xs=>match Ze5 x,UB xs with
  |some k,some ks=>some (k::ks)
  |_,_=>none
theorem Zba{x:PV}{k:Key}(h:Ze5 x=some k):x=ZdS k:=by
 cases x<;>first|(cases h;rfl)|cases h
theorem UA:∀{xs:List PV}{ks:List Key},UB xs=some ks->xs=ks.map ZdS
 |[],ks,h=>by cases h;rfl
 |x::xs,ks,h=>by
  unfold UB at h
  split at h
  ·rename_i k ks' h1 h2
   cases h
   rw[Zba h1,UA h2];rfl
  ·cases h
@[simp] theorem ZkA(k:Key):Ze5 (ZdS k)=some k:=by cases k<;>rfl
@[simp] theorem Vk:∀ks:List Key,UB (ks.map ZdS)=some ks
 |[]=>rfl
 |k::ks=>by simp[UB,Vk ks]
section
variable {K:W.Frag}{H:Hp}{S:Addr->Prop}
theorem Zc7{k:Key}{v:V}(h:Rep K H S (ZdS k) v):v=kV k:=by cases k<;>exact h
theorem U0:∀{ks:List Key}{vs:List V},Reps K H S (ks.map ZdS) vs->vs=ks.map kV
 |[],_,h=>h
 |k::ks,_,h=>by
  obtain⟨v,r,rfl,h1,h2⟩:=h
  rw[Zc7 h1,U0 h2];rfl
end
section
variable {κ:Type} [DecidableEq κ] {α:Type}
noncomputable def atK:List κ->List α->κ->Option α
 |k'::ks,x::xs,k=>if k'=k then some x else atK ks xs k
 |_,_,_=>none
noncomputable def Zfe:List κ->List α->κ->α->List α
 |k'::ks,x::xs,k,y=>(if k'=k then y else x)::Zfe ks xs k y
 |_,_,_,_=>[]
noncomputable def ZmX(k:κ)(ks:List κ):Bool:=decide (k∈ks)
theorem ZfF{k:κ}{ks:List κ}(h:ZmX k ks=false):k ∉ ks:=of_decide_eq_false h
noncomputable def Q5(ks:List κ)(k:κ):List κ:=if k∈ks then ks else ks++[k]
noncomputable def Uj(ks:List κ)(xs:List α)(k:κ)(y:α):List α:=if k∈ks then Zfe ks xs k y else xs++[y]
theorem Zd2:∀{ks:List κ}{xs:List α}{k:κ}{y:α},ks.length=xs.length->(Zfe ks xs k y).length=ks.length
 |[],[],_,_,_=>rfl
 |k'::ks,x::xs,k,y,h=>by simp[Zfe,Zd2 (ks:=ks) (xs:=xs) (k:=k) (y:=y) (by simpa using h)]
 |[],_::_,_,_,h=>by simp at h
 |_::_,[],_,_,h=>by simp at h
theorem Zfm{ks:List κ}{xs:List α}{k:κ}{y:α}(h:ks.length=xs.length):(Q5 ks k).length=(Uj ks xs k y).length:=by
 unfold Q5 Uj
 split
 ·rw[Zd2 h]
 ·simp[h]
theorem Za6:∀{ks:List κ}{vs:List V}{k:κ},ks.length=vs.length->ZeQ (ks.zip vs) k=atK ks vs k
 |[],[],_,_=>rfl
 |k'::ks,v::vs,k,h=>by
  rw[Zu4]
  unfold atK
  by_cases e:k'=k
  ·rw[Qc e,if_pos e]
  ·rw[Qd e,if_neg e,Za6 (by simpa using h)]
 |[],_::_,_,h=>by simp at h
 |_::_,[],_,h=>by simp at h
theorem Zdg:∀{ks:List κ}{vs:List V}{k:κ},ks.length=vs.length->(((ks.zip vs).any fun kv=>decide (kv.1=k))=true ↔ k∈ks)
 |[],[],_,_=>by simp
 |k'::ks,v::vs,k,h=>by
  rw[Zu4,Zuo,Bool.or_eq_true,Zdg (by simpa using h),ZsT,decide_eq_true_eq]
  exact⟨fun z=>z.imp Eq.symm id,fun z=>z.imp Eq.symm id⟩
 |[],_::_,_,h=>by simp at h
 |_::_,[],_,h=>by simp at h
theorem Zfd:∀{ks:List κ}{vs:List V}{k:κ}{y:V},ks.length=vs.length->((ks.zip vs).map fun kv=>if kv.1=k then (kv.1,y) else kv)=ks.zip (Zfe ks vs k y)
 |[],[],_,_,_=>rfl
 |k'::ks,v::vs,k,y,h=>by
  rw[Zu4,ZsW,Zfd (by simpa using h)]
  show _=(k'::ks).zip ((if k'=k then y else v)::Zfe ks vs k y)
  by_cases e:k'=k
  ·rw[if_pos e,if_pos e];rfl
  ·rw[if_neg e,if_neg e];rfl
 |[],_::_,_,_,h=>by simp at h
 |_::_,[],_,_,h=>by simp at h
theorem Zd6{ks:List κ}{vs:List V}{k:κ}{y:V}(h:ks.length=vs.length):ZeL (ks.zip vs) k y=(Q5 ks k).zip (Uj ks vs k y):=by
 unfold ZeL Q5 Uj
 by_cases c:k∈ks
 ·rw[if_pos ((Zdg h).mpr c),if_pos c,if_pos c,Zfd h]
 ·rw[if_neg (fun z=>c ((Zdg h).mp z)),if_neg c,if_neg c,List.zip_append h];rfl
end
section
variable {κ:Type} [DecidableEq κ] {K:W.Frag}{H:Hp}{S:Addr->Prop}
theorem Zd4:∀{ks:List κ}{xs:List PV}{vs:List V}{k:κ},Reps K H S xs vs->match atK ks xs k with
  |some y=>∃v,atK ks vs k=some v/\Rep K H S y v
  |none=>atK ks vs k=none
 |[],xs,vs,k,h=>by simp[atK]
 |k'::ks,[],vs,k,h=>by rw[h];simp[atK]
 |k'::ks,x::xs,vs,k,h=>by
  obtain⟨v,r,rfl,h1,h2⟩:=h
  unfold atK
  by_cases e:k'=k
  ·rw[if_pos e,if_pos e];exact⟨v,rfl,h1⟩
  ·rw[if_neg e,if_neg e];exact Zd4 h2
theorem Zaj:∀{ks:List κ}{xs:List PV}{vs:List V}{G:List Addr}{k:κ}{y:PV}{w:V},ks.length=xs.length->Trees K H xs vs G->Jg K H y w []->∃G',(∀a∈G',a∈G)/\Trees K H (Zfe ks xs k y) (Zfe ks vs k w) G'
 |[],[],vs,G,k,y,w,_,h,_=>⟨[],by simp,by rw[h.1];exact⟨rfl,rfl⟩⟩
 |k'::ks,x::xs,vs,G,k,y,w,hl,h,hy=>by
  obtain⟨v,r,G1,G2,rfl,h1,h2,h3,rfl⟩:=h
  obtain⟨G',g1,g2⟩:=Zaj (ks:=ks) (k:=k) (y:=y) (w:=w) (by simpa using hl) h2 hy
  unfold Zfe
  by_cases e:k'=k
  ·rw[if_pos e,if_pos e]
   exact⟨G',fun a ha=>ZsL _ (g1 a ha),w,_,[],G',rfl,hy,g2,by simp,rfl⟩
  ·rw[if_neg e,if_neg e]
   refine⟨G1++G',fun a ha=>?_,v,_,G1,G',rfl,h1,g2,fun a ha z=>h3 a ha (g1 a z),rfl⟩
   rcases ZsO.mp ha with z|z
   ·exact ZsQ _ z
   ·exact ZsL _ (g1 a z)
 |[],_::_,_,_,_,_,_,hl,_,_=>by simp at hl
 |_::_,[],_,_,_,_,_,hl,_,_=>by simp at hl
theorem Jg.flatG{x:PV}{v:V}{G:List Addr}(f:x.flat=true)(h:Jg K H x v G):Jg K H x v []:=Rep.tree f (h.rep (S:=fun _=>True) fun _ _=>trivial)
end
section
variable {K:W.Frag}{B:Addr->Prop}{EX:PX->Hp->Prop}{H0 H H':Hp}{σ:St}{Γ Γ' Γ1 Γ2 Γ3:List Md}{ρ:List PV}{F F':Nat->List Addr}{R:List Addr}{ta tb:TE}{f fa fb:List PV->Rr PV}{k:Kd}
theorem Res.newBox{H1:Hp}{F1:Nat->List Addr}{s:Sh}{xs:List PV}{vs:List V}{u:HO}{p:Addr}{S:Addr->Prop}(s1:Z6 H H1)(f1:∀i,∀a∈F1 i,a∈F i)(hb:ZkG K s vs u)(p1:Reps K H1 S xs vs)(hx:PV.flats xs=true)(A1:Ag K B H0 H1 σ Γ' ρ F1 R)(hp:H1 p=none) :
  Res K B H0 H σ Γ' ρ F R .F (.box none s xs) (.ref p) (upd H1 p u):=by
 have e:Z6 H1 (upd H1 p u):=Z6.new hp
 refine⟨F1,f1,[p],⟨p,vs,u,[],rfl,Z4,⟨trivial,hb⟩,(Reps.trees hx p1).same e,by simp,rfl⟩,fun a ha=>?_,A1.newB hb.lv hp⟩
 rw[Ztf.mp ha]
 exact⟨(A1.fresh hp).1,.inl (s1.free hp)⟩
theorem Zed:DE K EX Γ Γ .F Zi5 (fun _=>.ok (.box none (.dt []) [])):=fun B H0 H σ ρ F R Q A d p hp =>
 d _ _ (Z6.new hp) (Res.newBox (S:=fun _=>True) (vs:=[]) (Z6.refl _) (fun _ _ h=>h) ⟨rfl,rfl⟩ rfl rfl A hp)
noncomputable def dAt(x y:PV):Option (Option PV):=match x,y with
 |.box _ (.dk ks) xs,y=>(Ze5 y).map fun k=>atK ks xs k
 |.box _ (.dt ks) xs,.tup ys=>(UB ys).map fun k=>atK ks xs k
 |_,_=>none
noncomputable def Zm0(g:Bool->Bool)(y x:PV):Rr PV:=match dAt x y with
 |some o=>.ok (.bl (g o.isSome))
 |none=>.bad
noncomputable def Zh3(x y:PV):Rr PV:=match dAt x y with
 |some (some z)=>.ok z
 |_=>.bad
theorem Zgy{x y:PV}{v w:V}{o:Option PV}{S:Addr->Prop}(hx:Rep K H S x v)(hy:Rep K H (fun _=>True) y w)(e:dAt x y=some o) :
  ∃a r,v=.ref a/\ZkE H a w r/\r.isSome=o.isSome/\∀z,o=some z->∃u,r=some u/\Rep K H S z u:=by
 have fin:∀{κ:Type} [DecidableEq κ] {ks:List κ}{xs:List PV}{vs:List V}{k:κ},Reps K H S xs vs->o=atK ks xs k->(atK ks vs k).isSome=o.isSome/\∀z,o=some z->∃u,atK ks vs k=some u/\Rep K H S z u:=fun {κ} _ {ks xs vs k} h e=>by
  have:=Zd4 (ks:=ks) (k:=k) h
  rw[<- e] at this
  cases o with
  |none=>exact⟨by rw[this];rfl,fun z q=>by cases q⟩
  |some z =>
   obtain⟨u,e1,e2⟩:=this
   exact⟨by rw[e1];rfl,fun z' q=>by cases q;exact⟨u,e1,e2⟩⟩
 unfold dAt at e
 split at e
 ·rename_i p ks xs
  obtain⟨a,vs,u,rfl,hr,⟨_,hl,rfl⟩,hxs⟩:=hx
  cases ek:Ze5 y with
  |none=>rw[ek] at e;cases e
  |some k =>
   rw[ek] at e
   cases e
   rw[Zba ek] at hy
   obtain⟨g1,g2⟩:=fin (ks:=ks) (k:=k) hxs rfl
   exact⟨a,atK ks vs k,rfl,.inl ⟨_,k,hr.1,Zc7 hy,(Za6 hl).symm⟩,g1,g2⟩
 ·rename_i p ks xs ys
  obtain⟨a,vs,u,rfl,hr,⟨_,hl,rfl⟩,hxs⟩:=hx
  cases ek:UB ys with
  |none=>rw[ek] at e;cases e
  |some k =>
   rw[ek] at e
   cases e
   rw[UA ek] at hy
   obtain⟨b,ws,rfl,hb,hws⟩:=hy
   rw[U0 hws] at hb
   obtain⟨g1,g2⟩:=fin (ks:=ks) (k:=k) hxs rfl
   exact⟨a,atK ks vs k,rfl,.inr ⟨_,k,b,hr.1,rfl,hb.1,(Za6 hl).symm⟩,g1,g2⟩
 ·cases e
theorem QT(ha:DE K EX Γ Γ1 .A ta fa)(hb:DE K EX Γ1 Γ2 .A tb fb):DE K EX Γ Γ2 .P (ZeY ta tb) (fun ρ=>(fa ρ).bind fun y=>(fb ρ).bind fun x=>Zm0 (!·) y x):=fun B H0 H σ ρ F R Q A d=>by
 refine two ha hb A d.bind2 fun y x w v H' F' d s f py px A'=>?_
 unfold Zm0 at d
 cases e:dAt x y with
 |none=>rw[e] at d;exact d.elim
 |some o =>
  rw[e] at d
  obtain⟨a,r,rfl,g1,g2,_⟩:=Zgy px py e
  exact⟨a,r,rfl,g1,by rw[g2];exact d _ _ s ⟨F',f,rfl,rfl,A'⟩⟩
theorem Us(ha:DE K EX Γ Γ1 .A ta fa)(hb:DE K EX Γ1 Γ2 .A tb fb):DE K EX Γ Γ2 .A (ZkT ta tb) (fun ρ=>(fa ρ).bind fun x=>(fb ρ).bind fun y=>Zh3 x y):=fun B H0 H σ ρ F R Q A d=>by
 refine two ha hb A d.bind2 fun x y v w H' F' d s f px py A'=>?_
 unfold Zh3 at d
 cases e:dAt x y with
 |none=>rw[e] at d;exact d.elim
 |some o =>
  rw[e] at d
  cases o with
  |none=>exact d.elim
  |some z =>
   obtain⟨a,r,rfl,g1,_,g3⟩:=Zgy px py e
   obtain⟨u,rfl,hu⟩:=g3 z rfl
   exact⟨a,u,rfl,g1,d _ _ s ⟨F',f,hu,A'⟩⟩
noncomputable def Zh2(x y z:PV):Rr PV:=match x,y with
 |.box p (.dk ks) xs,y=>match Ze5 y with
  |some k=>if xs.length<1000000/\(ZmX k ks=false\/z.flat=true) then .ok (.box p (.dk (Q5 ks k)) (Uj ks xs k z)) else .bad
  |none=>.bad
 |.box p (.dt ks) xs,.tup ys=>match UB ys with
  |some k=>if xs.length<1000000/\(ZmX k ks=false\/z.flat=true) then .ok (.box p (.dt (Q5 ks k)) (Uj ks xs k z)) else .bad
  |none=>.bad
 |_,_=>.bad
theorem Zb4{κ:Type}[DecidableEq κ]{ks:List κ}{xs:List PV}{vs:List V}{k:κ}{y:PV}{w:V}{G G2:List Addr}(hl:ks.length=xs.length)(h:Trees K H xs vs G)(hy:Jg K H y w G2)(hd:∀a∈G,a ∉ G2)(hk:k∈ks->y.flat=true) :
  ∃G',(∀a∈G',a∈G\/a∈G2)/\Trees K H (Uj ks xs k y) (Uj ks vs k w) G':=by
 unfold Uj
 by_cases c:k∈ks
 ·rw[if_pos c,if_pos c]
  obtain⟨G',g1,g2⟩:=Zaj (k:=k) hl h (hy.flatG (hk c))
  exact⟨G',fun a ha=>.inl (g1 a ha),g2⟩
 ·rw[if_neg c,if_neg c]
  exact⟨G++G2,fun a ha=>ZsO.mp ha,Trees.append h (Trees.one hy) hd⟩
theorem Qs{i:Nat}{tv:TE}{fv:List PV->Rr PV}(hm:Γ1[i]?=some .O)(hv:DE K EX Γ Γ1 .F tv fv)(hk:DE K EX Γ1 Γ1 .A tb fb) :
  DS K EX Γ ⟨Γ1,Γ2,Γ3,k⟩ (Zlc (Za9 i) tb tv) (fun ρ=>(fv ρ).thenS fun z=>(fb ρ).thenS fun y=>(Zh2 (gv i ρ) y z).thenS fun x=>.next (ρ.set i x)):=fun B H0 H σ ρ F D A d=>by
 refine hv B H0 H σ ρ F [] _ A (d.thenS.imp (fun z _ d w H1 s1 r1=>?_) fun e q=>q)
 obtain⟨F1,f1,G2,t1,o1,A1⟩:=r1
 obtain⟨v,h1,h2⟩:=A1.getO hm
 refine⟨v,h1,hk B H0 H1 σ ρ F1 (G2++[]) _ A1 (d.thenS.imp (fun y _ d yv H2 s2 r2=>?_) fun e q=>q)⟩
 obtain⟨F2,f2,p2,A2⟩:=r2
 obtain⟨v',h1',h2'⟩:=A2.getO hm
 rw[h1] at h1';cases h1'
 have d:=d.thenS
 have t2:=t1.same s2
 have core:∀{p:Option Addr}{s s':Sh}{xs xs':List PV}{a:Addr}{vs vs':List V}{u u':HO}{G G':List Addr},ρ.getD i .non=.box p s xs->H2 a=some u->Zm6 p a->Trees K H2 xs vs G->a ∉ G->F2 i=a::G->ZkG K s' vs' u'->Trees K H2 xs' vs' G'->(∀b∈G',b∈G\/b∈G2) ->
   σ[i]?=some (some (.ref a))->DnS K B EX ⟨Γ1,Γ2,Γ3,k⟩ H0 H F D (.next (ρ.set i (.box p s' xs')))->D.nx σ (upd H2 a u'):=fun {p s s' xs xs' a vs vs' u u' G G'} er hH hpn ht hn hF hb ht' hsub hσ d=>by
  have haF:a∈F2 i:=by rw[hF];simp
  have na2:a ∉ G2:=fun z=>A2.disjR i a haF (ZsQ _ z)
  have hna:a ∉ G':=fun z=>(hsub a z).elim hn na2
  have hsub2:∀b∈a::G',b∈F2 i\/b∈G2:=fun b hb=>by
   rcases ZsT.mp hb with rfl|hb
   ·exact .inl haF
   ·rcases hsub b hb with z|z
    ·exact .inl (by rw[hF];simp[z])
    ·exact .inr z
  obtain⟨lv,hlv⟩:=A2.live i a haF
  refine d σ _ (Ul F2 i (a::G')) (QN (s1.trans s2) (fun j b hb=>f1 j b (f2 j b hb)) haF fun b hb=>?_) (Ag.chgB hb.lv (G:=G2) (R:=[]) A2 hm haF hsub2 (by simp) ?_)
  ·rcases hsub2 b hb with z|z
   ·exact .inr ⟨i,f1 i b (f2 i b z)⟩
   ·exact(o1 b z).2
  ·exact⟨_,hσ,a,vs',u',G',rfl,Z4,⟨hpn,hb⟩,Trees.putL hlv hna ht',hna,rfl⟩
 unfold Zh2 at d
 split at d
 ·rename_i p ks xs er _ _
  rw[show ρ.getD i .non=.box p (.dk ks) xs from er] at h2'
  obtain⟨a,vs,u,G,rfl,hH,⟨hpn,hl,rfl⟩,ht,hn,hF⟩:=h2'
  split at d
  ·rename_i kk ek
   split at d
   ·rename_i hc
    rw[Zba ek] at p2
    have hl':ks.length=xs.length:=by rw[hl,ht.length]
    have dj:∀b∈G,b ∉ G2:=fun b hb z=>A2.disjR i b (by rw[hF];simp[hb]) (ZsQ _ z)
    obtain⟨G',g1,g2⟩:=Zb4 (k:=kk) hl' ht t2 dj (fun c=>hc.2.resolve_left (fun z=>ZfF z c))
    refine⟨a,_,rfl,.inl ⟨_,kk,hH,Zc7 p2, ?_,rfl⟩,core er hH hpn ht hn hF (s':=.dk (Q5 ks kk)) (vs':=Uj ks vs kk w) ⟨Zfm hl, ?_⟩ g2 g1 h1 d⟩
    ·rw[ZtT,hl,Nat.min_self,ht.length];exact Ztb hc.1 (by decide)
    ·rw[Zd6 hl]
   ·exact d.elim
  ·exact d.elim
 ·rename_i p ks xs ys er _ _
  rw[show ρ.getD i .non=.box p (.dt ks) xs from er] at h2'
  obtain⟨a,vs,u,G,rfl,hH,⟨hpn,hl,rfl⟩,ht,hn,hF⟩:=h2'
  split at d
  ·rename_i kk ek
   split at d
   ·rename_i hc
    rw[UA ek] at p2
    obtain⟨b,ws,rfl,hb,hws⟩:=p2
    rw[U0 hws] at hb
    have hl':ks.length=xs.length:=by rw[hl,ht.length]
    have dj:∀b∈G,b ∉ G2:=fun b hb z=>A2.disjR i b (by rw[hF];simp[hb]) (ZsQ _ z)
    obtain⟨G',g1,g2⟩:=Zb4 (k:=kk) hl' ht t2 dj (fun c=>hc.2.resolve_left (fun z=>ZfF z c))
    refine⟨a,_,rfl,.inr ⟨_,kk,b,hH,rfl,hb.1, ?_,rfl⟩,core er hH hpn ht hn hF (s':=.dt (Q5 ks kk)) (vs':=Uj ks vs kk w) ⟨Zfm hl, ?_⟩ g2 g1 h1 d⟩
    ·rw[ZtT,hl,Nat.min_self,ht.length];exact Ztb hc.1 (by decide)
    ·rw[Zd6 hl]
   ·exact d.elim
  ·exact d.elim
 ·exact d.elim
end
noncomputable def ZeX(tk tv:TE):TE:=fun σ H Q=>∀p,H p=none->tk σ (upd H p (.dT [])) fun x H1=>tv σ H1 fun y H2=>∃b k,x=.ref b/\H2 b=some (.tup (k.map kV))/\H2 p=some (.dT [])/\Q (.ref p) (upd H2 p (.dT [(k,y)]))
theorem ZbF{X:Cx}{pos:Pos}{e v:Expr}{tk tv:TE}(hu:X.A.units+1<cLine)(hk:PE X e tk)(hv:PE X v tv):PE X (.Dict [some e] [v] pos) (ZeX tk tv):=by
 intro pins s σ H Q I q
 have hn:=I.hok.fresh (ZsN s.heap.objs.size)
 have I1:=I.laid (a:=s.heap.objs.size) (o:=.dT []) (h':=s.heap.push { cls:=.type "dict",data:=.dict #[] }) (t':=s.toks) (fun _ _ q=>Heap.get?_push_of_some _ q) (ZsN _) (ZdZ s.heap I.big)
 have hp:=Zhj (pos:=pos) hk hv Zj6
 refine wpAny_Dict_any rfl rfl (by simp) (by simp) (thn (hp pins _ σ _ (fun ps H2=>∃x y,ps=[(x,y)]/\∃b k,x=.ref b/\H2 b=some (.tup (k.map kV))/\H2 s.heap.objs.size=some (.dT [])/\Q (.ref s.heap.objs.size) (upd H2 s.heap.objs.size (.dT [(k,y)]))) I1 ?_) fun ws s2 ⟨ps,H2,I2,rel,x,y,ep,b,kk,ex,eb,e,q2⟩=>?_)
 ·have:=q _ hn
  show Zdu [(tk,tv)] σ _ _
  unfold Zdu
  refine cast (congrArg (fun f=>tk σ (upd H s.heap.objs.size (.dT [])) f) (funext fun x=>funext fun H1=>congrArg (fun f=>tv σ H1 f) (funext fun y=>funext fun H2=>propext ⟨fun z=>⟨x,y,rfl,z⟩,fun⟨x',y',e',z⟩=>by cases e';exact z⟩))) this
 subst ep ex
 rcases ws with _|⟨⟨uk,uv⟩,ws⟩
 ·cases rel
 cases rel with
 |cons r1 r2 =>
  cases r2
  obtain⟨rk,rv⟩:=r1
  have ek:uk=Value.ref b:=rk
  subst ek
  obtain⟨z,hd,xs,rl,dd⟩:=ZlY I2.hok e
  cases rl
  show wpAny _ _ (forIn [(Value.ref b,uv)] PUnit.unit _) _ _ s2
  rw[List.forIn_cons]
  refine wpAny_bind (wpAny_bind (wpAny_dictSet_heap (hsz:=Zts _) (show X.A.units<cLine by omega) (ZbQ I2.hok eb) dd fun h' dd' hs=>wpAny_pure ?_))
  dsimp only
  rw[List.forIn_nil]
  refine wpAny_pure ⟨.ref s.heap.objs.size,_, ?_,rfl,q2⟩
  obtain⟨qo,es,ep,hq,h2,h3,h4,_,h5⟩:=dd'
  refine ZcT I2 (by rw[e];exact True.intro) hs ⟨qo,hq⟩ ⟨?_,hd,_, ?_,qo,es,ep,hq,h2,h3,h4,h5⟩
  ·show 1<=sizeLine
   decide
  ·refine .cons ⟨rfl, ?_,rv⟩ .nil
   show upd H2 s.heap.objs.size _ b=_
   rw[Zy (ZjT eb e (fun z=>nomatch z))]
   exact eb
section
variable {K:W.Frag}{B:Addr->Prop}{EX:PX->Hp->Prop}{H0 H:Hp}{σ:St}{Γ Γ1 Γ2:List Md}{ρ:List PV}{F:Nat->List Addr}{R:List Addr}{ta tb:TE}{fa fb:List PV->Rr PV}{k:Kd}
noncomputable def Zar(y z:PV):Rr PV:=match y with
 |.tup ys=>match UB ys with
  |some k=>.ok (.box none (.dt [k]) [z])
  |none=>.bad
 |_=>.bad
theorem Zce(ha:DE K EX Γ Γ1 .A ta fa)(hb:DE K EX Γ1 Γ2 .P tb fb):DE K EX Γ Γ2 .F (ZeX ta tb) (fun ρ=>(fa ρ).bind fun y=>(fb ρ).bind fun z=>Zar y z):=fun B H0 H σ ρ F R Q A d p hp=>by
 have A0:=A.newB (u:=.dT []) trivial hp
 have s0:Z6 H (upd H p (.dT [])):=Z6.new hp
 refine ha B H0 _ σ ρ F (p::R) _ A0 (d.bind.imp (fun y _ d w H1 s1 r1=>?_) fun e q=>q)
 obtain⟨F1,f1,p1,A1⟩:=r1
 refine hb B H0 H1 σ ρ F1 (p::R) _ A1 (d.bind.imp (fun z _ d v H2 s2 r2=>?_) fun e q=>q)
 obtain⟨F2,f2,z1,z2,A2⟩:=r2
 have p1':=p1.same s2
 unfold Zar at d
 split at d
 ·rename_i ys
  split at d
  ·rename_i kk ek
   rw[UA ek] at p1'
   obtain⟨b,ws,rfl,hb,hws⟩:=p1'
   rw[U0 hws] at hb
   have hH:H2 p=some (.dT []):=s2 _ _ (s1 _ _ Z4)
   refine⟨b,kk,rfl,hb.1,hH, ?_⟩
   have hpR:p ∉ R:=fun q=>by obtain⟨u,e⟩:=A.liveR p q;rw[hp] at e;cases e
   have hpF:∀i,p ∉ F i:=fun i q=>by obtain⟨u,e⟩:=A.live i p q;rw[hp] at e;cases e
   have AR:Ag K B H0 (upd H2 p (.dT [(kk,v)])) σ Γ2 ρ F2 (p::R):=by
    refine⟨fun c o e=>?_,A2.own,A2.young,A2.youngR,fun i c hc=>?_,fun c hc=>?_,A2.disj,A2.disjR,A2.lenS,A2.lenR,fun i=>?_⟩
    ·rw[Zy (fun z=>by rw[z] at e;have:=A2.youngR p (by simp);rw[e] at this;cases this)];exact A2.same c o e
    ·rw[Zy (fun z=>by rw[z] at hc;exact A2.disjR i p hc (by simp))];exact A2.live i c hc
    ·by_cases q:c=p
     ·exact⟨⟨.dT [(kk,v)],trivial⟩,by rw[q,Z4]⟩
     ·rw[Zy q];exact A2.liveR c hc
    ·refine(A2.slot i).mono (fun c us s r=>⟨?_,s⟩) (fun c us r=>Im.putL (us:=⟨.dT [],trivial⟩) hH r) fun c hc us q=>?_
     ·have hne:c≠p:=fun z=>s.2.1 (by rw[z];simp)
      rcases r with r|⟨o',r⟩
      ·exact .inl (by rw[Zy hne];exact r)
      ·exact .inr ⟨o',by rw[Zy hne];exact r⟩
     ·have hne:c≠p:=fun z=>A2.disjR i c hc (by rw[z];simp)
      rw[Zy hne];exact q
   have sm:Z6 H (upd H2 p (.dT [(kk,v)])):=fun c o e=>by
    rw[Zy (ZB e hp)];exact s2 _ _ (s1 _ _ (s0 _ _ e))
   refine d _ _ sm ⟨F2,fun i a h=>f1 i a (f2 i a h),[p],⟨p,[v],_,[],rfl,Z4,⟨trivial,rfl,rfl⟩, ?_,by simp,rfl⟩,fun a ha=>?_,AR⟩
   ·exact⟨v,[],[],[],rfl,Jg.mono (fun a ha=>by cases ha) (fun c us r=>Im.putL (us:=⟨.dT [],trivial⟩) hH r) (z2.tree z1),⟨rfl,rfl⟩,by simp,rfl⟩
   ·rw[Ztf.mp ha];exact⟨hpR,.inl hp⟩
  ·exact d.elim
 ·exact d.elim
end
section
variable {X:Cx}{K:W.Frag}
def ZiB(K:W.Frag):List V->Hp->VK->Prop:=fun xs H Q=>∃p ys,xs=[.ref p]/\((SqL K H p ys/\∀l,H l=none->Q (.ref l) (upd H l (.tup ys)))\/(SqT K H p ys/\Q (.ref p) H))
theorem ZQ(e:X.K=K:=by rfl):Vx X (.type "tuple") (ZiB K):=by subst e;exact Zbr
theorem Jj:bootBuiltins "tuple"=some (.type "tuple"):=by decide +kernel
noncomputable def Znt(K:W.Frag)(ta:TE):TT:=fun σ H Q=>ta σ H fun x H'=>∃k,Znm K x H' k/\Q k H'
theorem Zj4{a:Expr}{ta:TE}(ha:PE X a ta)(e:X.K=K:=by rfl)(he:∀whole,isTrue a X.env whole=(do let v <- whole;standAt a.pos;holding [v] (truthy v)):=by exact fun _=>rfl):PT X a (Znt K ta):=by subst e;exact Zhh ha he
variable {B:Addr->Prop}{EX:PX->Hp->Prop}{H0 H:Hp}{σ:St}{Γ Γ':List Md}{ρ:List PV}{F:Nat->List Addr}{R:List Addr}{te:TE}{ta:TA}{f:List PV->Rr PV}{fa:List PV->Rr (List PV)}
noncomputable def Ua(xs:List PV):Rr PV:=match xs with
 |[.lst ys]=>.ok (.tup ys)
 |[.tup ys]=>.ok (.tup ys)
 |_=>.bad
theorem Ju(ha:DAA K EX Γ Γ' ta fa):DE K EX Γ Γ' .A (tCB (ZiB K) ta) (fun ρ=>(fa ρ).bind Ua):=fun B H0 H σ ρ F R Q A d=>by
 refine ha B H0 H σ ρ F R _ A (d.bind.imp (fun xs _ d vs H1 F1 s1 f1 p1 A1=>?_) fun e q=>q)
 unfold Ua at d
 split at d
 ·obtain⟨v,rfl,a,ws,rfl,hn,hr⟩:=VX p1
  refine⟨a,ws,rfl,.inl ⟨JC (S:=fun _=>True) hn,fun l hl=>?_⟩⟩
  have e:=Z6.new (H:=H1) (o:=.tup ws) hl
  exact d _ _ (s1.trans e) ⟨F1,f1,⟨l,ws,rfl,⟨Z4,trivial⟩,hr.same e⟩,A1.grow e⟩
 ·obtain⟨v,rfl,a,ws,rfl,hn,hr⟩:=VX p1
  exact⟨a,ws,rfl,.inr ⟨hn.sqT,d _ _ s1 ⟨F1,f1,⟨a,ws,rfl,hn,hr⟩,A1⟩⟩⟩
 ·exact d.elim
noncomputable def ZnI(x:PV):Rr Bool:=match x with
 |.lst xs=>.ok (!xs.isEmpty)
 |.bl b=>.ok b
 |_=>.bad
theorem ZlX(ha:DE K EX Γ Γ' .A te f):DT K EX Γ Γ' (Znt K te) (fun ρ=>(f ρ).bind ZnI):=fun B H0 H σ ρ F R Q A d=>by
 refine ha B H0 H σ ρ F R _ A (d.bind.imp (fun x _ d v H1 s1 r1=>?_) fun e q=>q)
 obtain⟨F1,f1,p1,A1⟩:=r1
 cases x with
 |lst xs =>
  obtain⟨a,vs,rfl,hn,hr⟩:=p1
  refine⟨!xs.isEmpty,.inl ⟨vs,JC (S:=fun _=>True) hn, ?_⟩,d _ F1 s1 f1 A1⟩
  cases xs with
  |nil=>rw[show vs=[] from hr];rfl
  |cons x xs=>obtain⟨v,r,rfl,_⟩:=hr;rfl
 |bl b=>cases p1;exact⟨b,rfl,d _ F1 s1 f1 A1⟩
 |_=>exact d.elim
end
noncomputable def ins{α:Type}:Nat->α->List α->List α
 |0,v,us=>v::us
 |_+1,v,[]=>[v]
 |j+1,v,u::us=>u::ins j v us
theorem VD{α:Type}:∀{j:Nat}{v:α}{us:List α},(ins j v us).length=us.length+1
 |0,_,_=>rfl
 |_+1,_,[]=>rfl
 |j+1,v,u::us=>by simp[ins,VD (j:=j) (v:=v) (us:=us)]
theorem UD{α:Type}:∀{j:Nat}{v:α}{us:List α} (i:Nat),j<=us.length->(ins j v us)[i]?=if i<j then us[i]? else if i=j then some v else us[i-1]?
 |0,v,us,0,_=>rfl
 |0,v,us,i+1,_=>by simp[ins]
 |j+1,v,[],_,h=>by simp at h
 |j+1,v,u::us,0,_=>rfl
 |j+1,v,u::us,i+1,h=>by
  have:=UD (j:=j) (v:=v) (us:=us) i (by simpa using h)
  rw[ins,Zu5,this]
  by_cases c:i<j
  ·rw[if_pos c,if_pos (show i+1<j+1 by omega)];rfl
  ·by_cases e:i=j
   ·rw[if_neg c,if_pos e,if_neg (show ¬i+1<j+1 by omega),if_pos (show i+1=j+1 by omega)]
   ·rw[if_neg c,if_neg e,if_neg (show ¬i+1<j+1 by omega),if_neg (show ¬i+1=j+1 by omega)]
    obtain⟨m,rfl⟩:∃m,i=m+1:=⟨i-1,by omega⟩
    rfl
theorem ZbT{α β:Type}{f:α->β}:∀{j:Nat}{v:α}{us:List α},(ins j v us).map f=ins j (f v) (us.map f)
 |0,_,_=>rfl
 |_+1,_,[]=>rfl
 |j+1,v,u::us=>by simp[ins,ZbT (j:=j) (v:=v) (us:=us)]
theorem ZbU{α:Type}{r:List α}:∀{j:Nat}{v:α}{us:List α},j<=us.length->ins j v us++r=ins j v (us++r)
 |0,_,_,_=>rfl
 |_+1,_,[],h=>by simp at h
 |j+1,v,u::us,h=>by
  show u::(ins j v us++r)=u::ins j v (us++r)
  rw[ZbU (by simpa using h)]
section
variable {K:W.Frag}{H:Hp}
theorem Jg.pin{p:Option Addr}{s:Sh}{ys:List PV}{a:Addr}{G:List Addr}(h:Jg K H (.box p s ys) (.ref a) G):Jg K H (.box (some a) s ys) (.ref a) G:=by
 obtain⟨a',vs,u,G',e,h1,h2,h3⟩:=h
 cases e
 exact⟨a,vs,u,G',rfl,h1,⟨rfl,h2.2⟩,h3⟩
theorem Jg.unpin{p:Option Addr}{s:Sh}{ys:List PV}{v:V}{G:List Addr}(h:Jg K H (.box p s ys) v G):Jg K H (.box none s ys) v G:=by
 obtain⟨a',vs,u,G',e,h1,h2,h3⟩:=h
 exact⟨a',vs,u,G',e,h1,⟨trivial,h2.2⟩,h3⟩
theorem Jg.repin{p:Option Addr}{s:Sh}{ys:List PV}{a:Addr}{G:List Addr}(hp:Zm6 p a)(h:Jg K H (.box none s ys) (.ref a) G):Jg K H (.box p s ys) (.ref a) G:=by
 obtain⟨a',vs,u,G',e,h1,h2,h3⟩:=h
 cases e
 exact⟨a,vs,u,G',rfl,h1,⟨hp,h2.2⟩,h3⟩
theorem Jg.pinned{b:Addr}{s:Sh}{ys:List PV}{v:V}{G:List Addr}(h:Jg K H (.box (some b) s ys) v G):v=.ref b:=by
 obtain⟨a',vs,u,G',e,h1,h2,h3⟩:=h
 rw[e,show a'=b from h2.1]
end
noncomputable def spM(K:W.Frag)(n j:Nat)(m:PV->List PV->Rr PV):Sp:=fun vs H Q E=>∃(B:Addr->Prop) (xs:List PV) (us:List V) (a:Addr) (s:Sh) (ys:List PV) (G:List Addr),
 vs=ins j (.ref a) us/\xs.length=n/\Reps K H B xs us/\Jg K H (.box none s ys) (.ref a) G/\(∀b,B b->b ∉ G) /\
 Dn (m (.box none s ys) xs) (fun r=>∃y s' ys',r=.tup [y,.box none s' ys']/\∀u H' G1 G2,Z6 (minus H G) H'->Jg K H' y u G1->Jg K H' (.box none s' ys') (.ref a) G2->(∀b∈G1,b ∉ G2)->(∀b∈G1,minus H G b=none)->(∀b∈G2,minus H G b=none)->Q u H') (fun _=>False)
noncomputable def ZmK(a:Addr)(b:PV):PV:=match b with
 |.box _ s ys=>.box (some a) s ys
 |x=>x
noncomputable def ZmJ(a:Addr)(r:Rr PV):Rr PV:=match r with
 |.ok (.tup [y,.box _ s ys])=>.ok (.tup [y,.box (some a) s ys])
 |.ok _=>.bad
 |.exc e=>.exc e
 |.bad=>.bad
noncomputable def RS.outN(j:Nat)(r:RS):Rr PV:=match r with
 |.next ρ=>.ok (.tup [.non,gv j ρ])
 |.ret x=>.ok x
 |.exc e=>.exc e
 |_=>.bad
section
variable {K:W.Frag}{B:Addr->Prop}{EX:PX->Hp->Prop}{H0 H:Hp}{σ:St}{Γ Γ' Γ1 Γ2 Γ3:List Md}{ρ:List PV}{F:Nat->List Addr}
theorem Ag.initM{s:Sh}{ys:List PV}{a:Addr}{G:List Addr}{xs:List PV}{us:List V}{j l:Nat}(ht:Jg K H (.box none s ys) (.ref a) G)(h:Reps K H B xs us)(hB:∀b,B b->b ∉ G)(hj:j<=xs.length) :
  Ag K (fun b=>B b\/minus H G b=none) (minus H G) H (ins j (some (.ref a)) (us.map some++List.replicate l none)) (ins j .O (List.replicate xs.length .S++List.replicate l .U)) (ins j (.box (some a) s ys) (xs++List.replicate l .non)) (Ul (fun _=>[]) j G) []:=by
 have fin:∀i,∀b∈Ul (fun _=>[]) j G i,i=j/\b∈G:=fun i b hb=>by
  unfold Ul at hb
  split at hb
  ·exact⟨by assumption,hb⟩
  ·simp at hb
 have A:=Ag.init (n:=l) h
 refine⟨Ze2,fun b h=>.inr h,fun i b hb=>ZdO (fin i b hb).2,by simp,fun i b hb=>ht.alive b (fin i b hb).2,by simp,fun i k hik b hb z=>hik ((fin i b hb).1.trans (fin k b z).1.symm),by simp,by simp[VD,h.length],by simp[VD],fun i=>?_⟩
 have hjs:j<=(us.map some++List.replicate l (none:Option V)).length:=by simp[h.length];omega
 have hjg:j<=(List.replicate xs.length Md.S++List.replicate l Md.U).length:=by simp;omega
 have hjr:j<=(xs++List.replicate l PV.non).length:=by simp;omega
 rw[ZsG,ZsG,UD i hjs,UD i hjg,UD i hjr]
 have go:∀q,q≠j\/True->UI K H (NO (fun b=>B b\/minus H G b=none) (Ul (fun _=>[]) j G) []) ((List.replicate xs.length Md.S++List.replicate l Md.U)[q]?.getD .U) ((xs++List.replicate l PV.non)[q]?.getD .non) (us.map some++List.replicate l none)[q]? []:=fun q _=>by
  have sl:=A.slot q
  rw[ZsG,ZsG] at sl
  refine sl.mono (fun b u s r=>⟨r, ?_,by simp,fun k z=>?_⟩) (fun b u r=>r) (fun b hb=>by cases hb)
  ·rcases s.1 with s|s
   ·exact .inl s
   ·exact .inr (by
     by_cases q:b∈G
     ·exact ZdO q
     ·rw[ZX q];exact s)
  ·have z:=(fin k b z).2
   rcases s.1 with s|s
   ·exact hB b s z
   ·obtain⟨vs,q⟩:=ht.alive b z
    rw[s] at q;cases q
 by_cases c:i<j
 ·rw[if_pos c,if_pos c,if_pos c,Z9 (by omega)]
  exact go i (.inr trivial)
 ·rw[if_neg c,if_neg c,if_neg c]
  by_cases e:i=j
  ·rw[if_pos e,if_pos e,if_pos e]
   subst e
   rw[Zv]
   exact⟨_,rfl,ht.pin⟩
  ·rw[if_neg e,if_neg e,if_neg e,Z9 e]
   exact go (i-1) (.inr trivial)
noncomputable def ZmG(y x:PV):RS:=match x with
 |.box (some a) s xs=>.ret (.tup [y,.box (some a) s xs])
 |_=>.bad
theorem Zkm{j:Nat}{te:TE}{f:List PV->Rr PV}(he:DE K EX Γ Γ' .F te f)(hm:Γ'[j]?=some .O):DS K EX Γ ⟨Γ3,Γ1,Γ2,.N⟩ (Zmx te) (fun ρ=>(f ρ).thenS fun y=>ZmG y (gv j ρ)):=fun B H0 H σ ρ F D A d=>by
 refine he B H0 H σ ρ F [] _ A (d.thenS.imp (fun y _ d v H1 s1 r1=>?_) fun e q=>q)
 obtain⟨F1,f1,G,h1,h2,A1⟩:=r1
 unfold ZmG at d
 split at d
 ·rename_i a s xs ex
  obtain⟨w,w1,w2⟩:=A1.getO hm
  rw[show ρ.getD j .non=.box (some a) s xs from ex] at w2
  have:=w2.pinned
  subst this
  exact d v H1 A1.same ⟨y,a,s,xs,G,F1 j,rfl,h1,w2,fun b hb z=>A1.disjR j b z (ZsQ _ hb),fun b hb=>A1.youngR b (ZsQ _ hb),fun b hb=>A1.young j b hb⟩
 ·exact d.elim
end
section
variable {P:Program}{w:World}{K:W.Frag}{mg:Str->Option Value}{base:Heap}
theorem Fun.okM{x qual:Str}{st:Stmt}{f:Addr}{fd:FuncData}{N ps:List Str}{k n l j:Nat}{m:PV->List PV->Rr PV}(F:Fun K x qual st f fd)(S:Zx N ps (Zn st))(hn:ps.length=n+1)(hl:N.length-(n+1)=l)(hj:j<=n)(hbody:∀(cdv:Value) (A:Around) (outer:List Env) (s:Shared) (H:Hp) (E:XK),Uu k (A.deeper (envOfC qual (Zn st) s.heap.objs.size f cdv)) ->
   ∃t g Y,Y.r=.N/\Y.n[j]?=some .O/\PSs (Zip CX0 P w K mg base N qual (Zn st) f cdv A outer s H E).nox (Vd st) t/\DS K X0 (ins j .O (List.replicate n .S++List.replicate l .U)) Y t g /\
    ∀a b xs,Ref (ZmJ a (m b xs)) ((g (ins j (ZmK a b) (xs++List.replicate l .non))).outN j)) :
  JB P w K mg base CX0 (k+1) f fd ps (spM K n j m):=by
 refine F.ok S (fun vs H Q E h=>?_) (fun cdv A outer s H vs Q E hr h=>?_)
 ·obtain⟨B,xs,us,a,s,ys,G,rfl,h1,h2,_⟩:=h
  rw[VD,h2.length,h1,hn]
 ·obtain⟨B,xs,us,a,s',ys,G,rfl,h1,h2,h3,h4,dn⟩:=h
  obtain⟨t,g,Y,hY,hYn,ht,hd,href⟩:=hbody cdv A outer s H E hr
  refine⟨t,ht, ?_⟩
  have A0:=Ag.initM (l:=l) h3 h2 h4 (show j<=xs.length by omega)
  have est:Uy N (ins j (.ref a) us)=ins j (some (.ref a)) (us.map some++List.replicate l none):=by
   unfold Uy
   rw[VD,h2.length,h1,hl,ZbT,ZbU (by rw[ZsI,h2.length];omega)]
  rw[est]
  rw[h1] at A0
  refine hd _ (minus H G) H _ _ _ _ A0 ?_
  have hr:=href a (.box none s' ys) xs
  rw[show ZmK a (.box none s' ys)=.box (some a) s' ys from rfl] at hr
  cases em:m (.box none s' ys) xs with
  |bad=>rw[em] at dn;exact dn.elim
  |exc q=>rw[em] at dn;exact dn.elim
  |ok r =>
   rw[em] at dn hr
   obtain⟨y,s2,ys2,rfl,q⟩:=dn
   have ho:(g (ins j (.box (some a) s' ys) (xs++List.replicate l .non))).outN j=.ok (.tup [y,.box (some a) s2 ys2]):=by
    rcases hr with e|e
    ·cases e
    ·exact e.symm
   cases e:g (ins j (.box (some a) s' ys) (xs++List.replicate l .non)) with
   |next ρ =>
    rw[e] at ho
    have hy:PV.tup [.non,gv j ρ]=.tup [y,.box (some a) s2 ys2]:=by simpa[RS.outN] using ho
    simp only[PV.tup.injEq,List.cons.injEq,and_true] at hy
    obtain⟨rfl,hb⟩:=hy
    refine fun σ' H' F' fr A'=>?_
    obtain⟨v,w1,w2⟩:=A'.getO hYn
    rw[show ρ.getD j .non=.box (some a) s2 ys2 from hb] at w2
    have:=w2.pinned
    subst this
    exact q .non H' [] (F' j) A'.same ⟨rfl,rfl⟩ w2.unpin (by simp) (by simp) fun b hb=>A'.young j b hb
   |ret z =>
    rw[e] at ho
    have hy:z=.tup [y,.box (some a) s2 ys2]:=by simpa[RS.outN] using ho
    subst hy
    refine fun v H' s r=>?_
    rw[hY] at r
    obtain⟨y',a',s3,xs3,G1,G2,e1,r1,r2,r3,r4,r5⟩:=r
    simp only[PV.tup.injEq,List.cons.injEq,and_true,PV.box.injEq,Option.some.injEq] at e1
    obtain⟨rfl,rfl,rfl,rfl⟩:=e1
    exact q v H' G1 G2 s r1 r2.unpin r3 r4 r5
   |exc q=>rw[e] at ho;cases ho
   |brk ρ=>rw[e] at ho;cases ho
   |cont ρ=>rw[e] at ho;cases ho
   |bad=>rw[e] at ho;cases ho
end
def NoE{α:Type}(f:List PV->Rr α):Prop:=∀ρ e,f ρ≠.exc e
def DER(K:W.Frag)(Γ:List Md)(te:TE)(f:List PV->Rr PV):Prop:=NoE f /\
 ∀(B:Addr->Prop) (H0 H:Hp) (σ:St) (ρ:List PV) (F:Nat->List Addr) (R:List Addr) (Q:VK),Ag K B H0 H σ Γ ρ F R ->
  (∃x,f ρ=.ok x/\∀v,Rep K H (fun a=>a ∉ R) x v->Q v H)->te σ H Q
def DAR(K:W.Frag)(Γ:List Md)(ta:TA)(f:List PV->Rr (List PV)):Prop:=NoE f /\
 ∀(B:Addr->Prop) (H0 H:Hp) (σ:St) (ρ:List PV) (F:Nat->List Addr) (R:List Addr) (Q:List V->Hp->Prop),Ag K B H0 H σ Γ ρ F R ->
  (∃xs,f ρ=.ok xs/\∀vs,Reps K H (fun a=>a ∉ R) xs vs->Q vs H)->ta σ H Q
def DAM(K:W.Frag)(Γ:List Md)(i j:Nat)(ta:TA)(f:List PV->Rr (List PV)):Prop:=NoE f /\
 ∀(B:Addr->Prop) (H0 H:Hp) (σ:St) (ρ:List PV) (F:Nat->List Addr) (R:List Addr) (v:V) (Q:List V->Hp->Prop),Ag K B H0 H σ Γ ρ F R->σ[i]?=some (some v) ->
  (∃xs,f ρ=.ok xs/\∀vs,Reps K H (fun a=>a ∉ R) xs vs->Q (ins j v vs) H)->ta σ H Q
theorem bind_ok{α β:Type}{r:Rr α}{g:α->Rr β}{y:β}(h:r.bind g=.ok y):∃x,r=.ok x/\g x=.ok y:=by
 cases r with
 |ok x=>exact⟨x,rfl,h⟩
 |exc e=>cases h
 |bad=>cases h
theorem ZdM{α β:Type}{f:List PV->Rr α}{g:List PV->α->Rr β}(h1:NoE f)(h2:∀ρ x e,g ρ x≠.exc e):NoE (fun ρ=>(f ρ).bind (g ρ)):=fun ρ e q=>by
 cases ef:f ρ with
 |ok x=>simp only[ef] at q;exact h2 ρ x e q
 |exc e'=>exact h1 ρ e' ef
 |bad=>simp only[ef] at q;cases q
section
variable {K:W.Frag}{B:Addr->Prop}{EX:PX->Hp->Prop}{H0 H H':Hp}{σ:St}{Γ Γ1 Γ2:List Md}{ρ:List PV}{F F':Nat->List Addr}{R:List Addr}{te:TE}{ta:TA}{f:List PV->Rr PV}{fa:List PV->Rr (List PV)}{i j n:Nat}{m:PV->List PV->Rr PV}
theorem Zgn{l:Nat}{md:Md}(h:Γ[l]?=some md)(hm:md≠.U):DER K Γ (Za9 l) (fun ρ=>.ok (gv l ρ)):=⟨fun ρ e q=>(by cases q),fun B H0 H σ ρ F R Q A d=>by
 obtain⟨x,e,d⟩:=d
 cases e
 cases md with
 |U=>exact absurd rfl hm
 |P=>obtain⟨v,h1,h2,h3⟩:=A.getP h;exact⟨v,h1,d v (h3.flatS h2)⟩
 |S=>obtain⟨v,h1,h2⟩:=A.getS h;exact⟨v,h1,d v (Rep.mono (fun a u s r=>⟨r,s.2.1⟩) (fun a u r=>r) h2)⟩
 |T =>
  obtain⟨a,vs,xs,h1,h2,h3,h4,h5⟩:=A.getT h
  refine⟨_,h1,d _ ?_⟩
  rw[show gv l ρ=.lst xs from h2]
  exact⟨a,vs,rfl,.inl ⟨.inl h3,A.disjR l a (by rw[h5];simp)⟩,Reps.mono (fun a u s r=>⟨r,s.2.1⟩) (fun a u r=>r) h4⟩
 |O=>obtain⟨v,h1,h2⟩:=A.getO h;exact⟨v,h1,d v (h2.rep fun a ha=>A.disjR l a ha)⟩⟩
theorem Zkx:DAR K Γ ZeV (fun _=>.ok []):=⟨fun ρ e q=>(by cases q),fun B H0 H σ ρ F R Q A d=>by
 obtain⟨x,e,d⟩:=d
 cases e
 exact d [] rfl⟩
theorem Zio(ha:DAR K Γ ta fa):DAM K Γ i 0 (UO (Za9 i) ta) fa:=⟨ha.1,fun B H0 H σ ρ F R v Q A hv d=>⟨v,hv,ha.2 B H0 H σ ρ F R _ A d⟩⟩
theorem Zef(he:DER K Γ te f)(ha:DAM K Γ i j ta fa):DAM K Γ i (j+1) (UO te ta) (fun ρ=>(f ρ).bind fun x=>(fa ρ).bind fun xs=>.ok (x::xs)):=⟨ZdM he.1 fun ρ x e q=>(ZdM (g:=fun _ xs=>.ok (x::xs)) ha.1 fun _ y e q=>by cases q) ρ e q,fun B H0 H σ ρ F R v Q A hv d=>by
 obtain⟨z,e,d⟩:=d
 obtain⟨x,e1,e⟩:=bind_ok e
 obtain⟨y,e2,e⟩:=bind_ok e
 cases e
 exact he.2 B H0 H σ ρ F R _ A ⟨x,e1,fun u hu=>ha.2 B H0 H σ ρ F R v _ A hv ⟨y,e2,fun vs hvs=>d (u::vs) ⟨u,vs,rfl,hu,hvs⟩⟩⟩⟩
def DM(K:W.Frag)(EX:PX->Hp->Prop)(Γ:List Md)(i:Nat)(te:TE)(fm:List PV->Rr (PV×PV)):Prop:=
 ∀(B:Addr->Prop) (H0 H:Hp) (σ:St) (ρ:List PV) (F:Nat->List Addr) (Q:VK),Ag K B H0 H σ Γ ρ F [] ->
  Dn (fm ρ) (fun r=>∀v H' F' G,Frm H F H' F'->Jg K H' r.1 v G->(∀b∈G,H b=none\/∃l,b∈F l)->Ag K B H0 H' σ Γ (ρ.set i r.2) F' (G++[])->Q v H') (fun e=>∀H',Z6 H0 H'->EX e H')->te σ H Q
noncomputable def Zg7(m:PV->List PV->Rr PV)(x:PV)(xs:List PV):Rr (PV×PV):=match x with
 |.box p s ys=>match m (.box none s ys) xs with
  |.ok (.tup [y,.box none s' ys'])=>.ok (y,.box p s' ys')
  |_=>.bad
 |_=>.bad
theorem Zla{α:Type}{l:List α}{i:Nat}{v:α}(h:l[i]?=some v):l.set i v=l:=by
 apply Zt9
 intro q
 by_cases e:i=q
 ·subst e;rw[Ztr (ZsJ.mp h).1,h]
 ·rw[Ztz e]
theorem Zkr(hm:Γ[i]?=some .O)(hn:Len fa n)(ha:DAM K (Γ.set i .U) i j ta fa):DM K EX Γ i (Zak (spM K n j m) ta) (fun ρ=>(fa ρ).bind fun xs=>Zg7 m (gv i ρ) xs):=fun B H0 H σ ρ F Q A d=>by
 obtain⟨v,h1,h2⟩:=A.getO hm
 have hi:=A.lt hm
 cases ea:fa ρ with
 |bad=>dsimp only at d;rw[ea] at d;exact d.elim
 |exc q=>exact absurd ea (ha.1 ρ q)
 |ok xs =>
  refine ha.2 B H0 H σ ρ _ (F i++[]) v _ (A.move hm) h1 ⟨xs,ea,fun vs hvs=>?_⟩
  dsimp only at d
  rw[ea] at d
  have d:Dn (Zg7 m (gv i ρ) xs) _ _:=d
  unfold Zg7 at d
  split at d
  ·rename_i p s ys er
   rw[show ρ.getD i .non=.box p s ys from er] at h2
   split at d
   ·rename_i y s2 ys2 em
    obtain⟨a,ws,u0,G0,rfl,hH,hb,ht,hna,hF⟩:=id h2
    refine⟨fun b=>b ∉ F i,xs,vs,a,s,ys,F i,rfl,hn ρ xs ea,Reps.mono (fun b u s r=>⟨r,fun z=>s (by simp[z])⟩) (fun b u r=>r) hvs,h2.unpin,fun b hb z=>hb z, ?_⟩
    rw[em]
    refine⟨y,s2,ys2,rfl,fun u H' G1 G2 sm t1 t2 dj n1 n2=>?_⟩
    have AL:=(A.move hm).lost sm
    have hiU:(Γ.set i .U)[i]?=some .U:=by rw[Ztr hi]
    have nw:∀b,minus H (F i) b=none->(∀l,b ∉ Ul F i [] l)/\H0 b=none:=fun b hb=>by
     refine⟨fun l z=>?_, ?_⟩
     ·by_cases q:l=i
      ·subst q;rw[Zv] at z;simp at z
      ·rw[Z9 q] at z
       rw[ZX (fun w=>A.disj l i q b z w)] at hb
       obtain⟨o,e⟩:=A.live l b z
       rw[hb] at e;cases e
     ·by_cases q:b∈F i
      ·exact A.young i b q
      ·rw[ZX q] at hb
       exact A.same.free hb
    have AM:Ag K B H0 H' σ (Γ.set i .U) ρ (Ul F i []) (G2++(G1++[])):=by
     refine⟨AL.same,AL.own,AL.young,fun b hb=>?_,AL.live,fun b hb=>?_,AL.disj,fun l b hb z=>?_,AL.lenS,AL.lenR,fun l=>?_⟩
     ·rcases ZsO.mp hb with z|z
      ·exact(nw b (n2 b z)).2
      ·exact(nw b (n1 b (by simpa using z))).2
     ·rcases ZsO.mp hb with z|z
      ·exact t2.alive b z
      ·exact t1.alive b (by simpa using z)
     ·rcases ZsO.mp z with z|z
      ·exact(nw b (n2 b z)).1 l hb
      ·exact(nw b (n1 b (by simpa using z))).1 l hb
     ·refine((A.move hm).slot l).mono (fun b o s r=>⟨(r.minus (fun z=>s.2.1 (by simp[z]))).same sm,s.1,fun z=>?_,s.2.2⟩) (fun b o r=>sm.im (r.minus fun c hc=>A.live i c hc)) fun b hb o q=>sm _ _ ?_
      ·have hb:minus H (F i) b≠none:=by
        rw[ZX (fun z=>s.2.1 (by simp[z]))]
        rcases r with r|⟨o',r⟩<;>(rw[r];simp)
       rcases ZsO.mp z with z|z
       ·exact hb (n2 b z)
       ·exact hb (n1 b (by simpa using z))
      ·rw[ZX (fun z=>(A.move hm).disjR l b hb (by simp[z]))];exact q
    have AP:=Ag.put (i:=i) (m:=.O) (x:=.box p s2 ys2) (v:=.ref a) (G:=G2) (R:=G1++[]) AM (by rw[Zu1];exact hi) (fun b hb z=>dj b (by simpa using z) hb) ⟨.ref a,rfl,t2.repin hb.1⟩
    rw[Zla h1,List.set_set,Zhb hm] at AP
    refine d u H' _ G1 (fun b o h n=>?_) t1 (fun b hb=>?_) AP
    ·have e:minus H (F i) b=some o:=by rw[ZX (n i)];exact h
     refine⟨sm _ _ e,fun l z=>?_⟩
     by_cases q:l=i
     ·subst q
      rw[Zv] at z
      rw[n2 b z] at e;cases e
     ·rw[Z9 q,Z9 q] at z
      exact n l z
    ·have:=n1 b hb
     by_cases q:b∈F i
     ·exact .inr ⟨i,q⟩
     ·rw[ZX q] at this;exact .inl this
   ·exact d.elim
  ·exact d.elim
variable {fm:List PV->Rr (PV×PV)}{k:Kd}{l:Nat}
theorem Zbe{F1:Nat->List Addr}{G:List Addr}(fr:Frm H F H' F1)(hG:∀a∈G,H a=none\/∃j,a∈F j):Frm H F H' (Ul F1 l G):=fun b o h n=>by
 obtain⟨h1,h2⟩:=fr b o h n
 refine⟨h1,fun q z=>?_⟩
 by_cases e:q=l
 ·subst e;rw[Zv] at z
  rcases hG b z with w|⟨c,w⟩
  ·rw[h] at w;cases w
  ·exact n c w
 ·rw[Z9 e] at z;exact h2 q z
theorem Zib(he:DM K EX Γ i te fm)(hl:l<Γ.length):DS K EX Γ ⟨Γ.set l .O,Γ1,Γ2,k⟩ (Zi7 te (UE l)) (fun ρ=>(fm ρ).thenS fun r=>.next ((ρ.set i r.2).set l r.1)):=fun B H0 H σ ρ F D A d=>by
 refine he B H0 H σ ρ F _ A (d.thenS.imp (fun r _ d v H1 F1 G fr t1 h1 A1=>?_) fun e q=>q)
 exact d _ H1 _ (Zbe fr h1) (Ag.put (R:=[]) A1 hl (by simp) ⟨v,rfl,t1⟩)
end
noncomputable def Pm.fnM(m:Pm)(b:PV)(xs:List PV):Rr PV:=m.fn (b::xs)
theorem hu1{n c:Nat}(h:n+64<c):n+1<c:=by omega
theorem Zhd{y:PV}{a:Addr}{s:Sh}{xs:List PV}:ZmG y (.box (some a) s xs)=.ret (.tup [y,.box (some a) s xs]):=rfl
theorem Ziu{m:PV->List PV->Rr PV}{p:Option Addr}{s s':Sh}{ys ys' xs:List PV}{y:PV}(h:m (.box none s ys) xs=.ok (.tup [y,.box none s' ys'])):Zg7 m (.box p s ys) xs=.ok (y,.box p s' ys'):=by
 unfold Zg7
 simp only[h]
section
variable {prog:Program}{w:World}{A:Around}{s:Shared}
theorem ZaX{fin:Bool}{Q:Bool->Shared->Prop}:∀{ns ms:List Int}{vs ws:List Value}{i:Nat},ZY (ns.map V.int) vs->ZY (ms.map V.int) ws->fin=decide (vs.length<ws.length)->Q (HT.Z1 ns ms) s ->
  PySem.W.KatLex prog w A true fin Q (vs.zip ws) i s
 |[],[],_,_,i,.nil,.nil,e,q=>by subst e;exact q
 |[],m::ms,_,_,i,.nil,.cons r t,e,q=>by
  have:fin=true:=by rw[e];simp
  subst this
  exact q
 |n::ns,[],_,_,i,.cons r t,.nil,e,q=>by
  have:fin=false:=by rw[e];simp
  subst this
  exact q
 |n::ns,m::ms,_,_,i,.cons r t,.cons r' t',e,q=>by
  obtain⟨k,rfl⟩:=r
  obtain⟨k',rfl⟩:=r'
  rw[Zu4]
  refine PySem.W.kat_cons (wpAny_eqBool_int ?_)
  rw[HT.JJ] at q
  by_cases h:n=m
  ·subst h
   rw[if_pos rfl] at q
   simp only[beq_self_eq_true]
   exact PySem.W.kat_yes (ZaX t t' (by rw[e];simp) q)
  ·rw[if_neg h] at q
   have hb:(n==m)=false:=by simpa using h
   rw[hb]
   refine PySem.W.kat_no ?_
   cases i with
   |zero=>exact oneLt_int q
   |succ i=>exact PySem.W.kat_one _ _ (PyProof.Rows.lt_int q)
end
noncomputable def ZR(t:List Int):PV:=.tup (t.map PV.int)
theorem Qw:∀{a b:List (List Int)},a.map ZR=b.map ZR->a=b
 |[],[],_=>rfl
 |[],y::b,h=>by simp at h
 |x::a,[],h=>by simp at h
 |x::a,y::b,h=>by
  simp only[ZsW,List.cons.injEq,ZR,PV.tup.injEq] at h
  rw[ZM h.1,Qw h.2]
section
end
theorem Pm.refM2(m:Pm){r:Addr->PV->List PV->Rr PV}(h:∀i,m.pre i->∀a b xs,m.enc i=b::xs->r a b xs=ZmJ a (m.out i)):∀a b xs,Ref (ZmJ a (m.fnM b xs)) (r a b xs):=fun a b xs=>by
 unfold Pm.fnM Pm.fn
 by_cases hx:∃i,m.enc i=b::xs/\m.pre i
 ·rw[dif_pos hx]
  exact .inr (h _ hx.choose_spec.2 a b xs hx.choose_spec.1).symm
 ·rw[dif_neg hx];exact .inl rfl
theorem Zcr:bootBuiltins "sorted"=some (.builtin "sorted"):=by decide +kernel
end L2
namespace My
open L2
noncomputable def tab(n:Nat)(f:Nat->Int):List Int:=(List.range n).map f
theorem Jk(n:Nat)(f:Nat->Int):(tab n f).length=n:=by simp[tab]
theorem Qy{n:Nat}{f:Nat->Int}{x:Nat}(h:x<n):(tab n f).getD x 0=f x:=by
 rw[ZsG,tab,ZsM,Zt6 h];rfl
theorem Za8{n:Nat}{f:Nat->Int}{l:List Int}(hl:l.length=n)(h:∀x,x<n->l.getD x 0=f x):l=tab n f:=by
 apply List.ext_getElem
 ·rw[hl,Jk]
 ·intro i h1 h2
  have:=h i (by omega)
  rw[ZsG,ZsH h1] at this
  simp only[tab,ZuF,List.getElem_range]
  exact this
theorem getD_set{l:List Int}{j x:Nat}{v:Int}(h:j<l.length):(l.set j v).getD x 0=if x=j then v else l.getD x 0:=by
 rw[ZsG,ZsG]
 by_cases e:x=j
 ·subst e;rw[Ztr h,if_pos rfl];rfl
 ·rw[Ztz (Ne.symm e),if_neg e]
theorem ZeT{n:Nat}{f:Nat->Int}{j:Nat}{v:Int}(h:j<n):(tab n f).set j v=tab n fun x=>if x=j then v else f x:=by
 refine Za8 (by rw[Zu1,Jk]) fun x hx=>?_
 rw[getD_set (by rw[Jk];exact h)]
 by_cases e:x=j
 ·rw[if_pos e,if_pos e]
 ·rw[if_neg e,if_neg e,Qy hx]
theorem Qz{n:Nat}{f g:Nat->Int}(h:∀x,x<n->f x=g x):tab n f=tab n g:=Za8 (Jk _ _) fun x hx=>by rw[Qy hx,h x hx]
theorem VE{l:List Int}{x:Nat}(h:x<l.length):l.getD x 0∈l:=by
 rw[ZsG,ZsH h];exact Zux h
theorem Qj:∀{l:List Int}{j:Nat}{v:Int},j<l.length->(l.set j v).sum=l.sum-l.getD j 0+v
 |a::l,0,v,_=>by simp;omega
 |a::l,j+1,v,h=>by
  have:=Qj (l:=l) (j:=j) (v:=v) (by simpa using h)
  simp only[List.set_cons_succ,Zup,List.getD_cons_succ,this];omega
theorem Q2:∀(ns:List Int) (c:Int),(ns.map fun v=>v+c).sum=ns.sum+ns.length*c
 |[],c=>by simp
 |a::l,c=>by
  simp only[ZsW,Zup,Ztq]
  rw[Q2 l c,Int.natCast_add,Int.add_mul];omega
theorem ZaP{n a b:Int}(ha:0<=a)(ha':a<n)(hb:0<=b)(hb':b<n):(a-b)%n=if b<=a then a-b else a-b+n:=by
 by_cases h:b<=a
 ·rw[if_pos h,Ztt (by omega) (by omega)]
 ·rw[if_neg h,<- Zu6,Ztt (by omega) (by omega)]
theorem QD{n a b:Int}(ha:0<=a)(ha':a<n)(hb:0<=b)(hb':b<n):(a+b)%n=if a+b<n then a+b else a+b-n:=by
 by_cases h:a+b<n
 ·rw[if_pos h,Ztt (by omega) (by omega)]
 ·rw[if_neg h,<- Int.sub_emod_right,Ztt (by omega) (by omega)]
structure Zmw(ns:List Int):Prop where
 lo:2<=ns.length
 hi:ns.length<=24
 nn:∀x∈ns,0<=x
 sm:ns.sum<=10^60
theorem sum_nn:∀{l:List Int},(∀x∈l,0<=x)->0<=l.sum
 |[],_=>by simp
 |a::l,h=>by
  have:=sum_nn (l:=l) fun x hx=>h x (by simp[hx])
  have:=h a (by simp)
  simp only[Zup];omega
theorem ZiO:∀{l:List Int}{v:Int},(∀x∈l,0<=x)->v∈l->v<=l.sum
 |a::l,v,h,hv=>by
  have h1:=sum_nn (l:=l) fun x hx=>h x (by simp[hx])
  have h2:=h a (by simp)
  simp only[Zup]
  rcases ZsT.mp hv with rfl|hv
  ·omega
  ·have:=ZiO (l:=l) (fun x hx=>h x (by simp[hx])) hv
   omega
noncomputable def Zi8(ns:List Int)(p:Int)(x:Nat):Int:=(if (x:Int)=p then 0 else ns.getD x 0)+ns.getD p.toNat 0/ns.length
noncomputable def ZgI(n:Int)(p:Int)(i:Int)(x:Nat):Int:=if 1<=((x:Int)-p)%n/\((x:Int)-p)%n<=i then 1 else 0
noncomputable def Zbx(ns:List Int)(p:Int)(i:Int)(x:Nat):Int:=Zi8 ns p x+ZgI ns.length p i x
theorem Zc4(n p i:Int)(x:Nat):0<=ZgI n p i x:=by unfold ZgI;split<;>omega
theorem Uz{n p i:Int}{x:Nat}(h:1<=((x:Int)-p)%n/\((x:Int)-p)%n<=i):ZgI n p i x=1:=if_pos h
theorem Ui{n p i:Int}{x:Nat}(h:¬(1<=((x:Int)-p)%n/\((x:Int)-p)%n<=i)):ZgI n p i x=0:=if_neg h
theorem ZkZ{ns:List Int}{p:Int}{x:Nat}(h:(x:Int)=p):Zi8 ns p x=ns.getD p.toNat 0/ns.length:=by unfold Zi8;rw[if_pos h];omega
theorem Zjv{ns:List Int}{p:Int}{x:Nat}(h:(x:Int)≠p):Zi8 ns p x=ns.getD x 0+ns.getD p.toNat 0/ns.length:=by unfold Zi8;rw[if_neg h]
noncomputable def Vz(ns:List Int)(p:Int):List Int:=tab ns.length (Zbx ns p (ns.getD p.toNat 0%ns.length))
noncomputable def Zn0(ns:List Int)(p:Int):Int:=(p+ns.getD p.toNat 0%ns.length)%ns.length
theorem Q3(ns:List Int)(p:Int):(Vz ns p).length=ns.length:=Jk _ _
section
variable {ns:List Int}{p:Int}
theorem ZaC(h0:0<=p)(h1:p<ns.length):(ns.map fun v=>v+ns.getD p.toNat 0/ns.length).set p.toNat (ns.getD p.toNat 0/ns.length)=tab ns.length (Zbx ns p 0):=by
 refine Za8 (by simp) fun x hx=>?_
 rw[getD_set (by simp;omega)]
 unfold Zbx
 rw[Ui (by omega)]
 by_cases e:x=p.toNat
 ·rw[if_pos e,ZkZ (by omega)];omega
 ·rw[if_neg e,Zjv (by omega)]
  simp[ZsG,ZsH hx]
theorem Zdz(h0:0<=p)(h1:p<ns.length){i:Nat}(hi:(i:Int)+1<ns.length) :
  (tab ns.length (Zbx ns p i)).set ((p+(i+1))%ns.length).toNat (Zbx ns p i ((p+(i+1))%ns.length).toNat+1)=tab ns.length (Zbx ns p ((i+1:Nat):Int)):=by
 have m1:=QD h0 h1 (show (0:Int)<=(i:Int)+1 by omega) hi
 have hlt:((p+((i:Int)+1))%ns.length).toNat<ns.length:=by
  rw[m1];split<;>omega
 rw[ZeT hlt]
 refine Qz fun x hx=>?_
 have m2:=ZaP (n:=ns.length) (show (0:Int)<=(x:Int) by omega) (by omega) h0 h1
 by_cases e:x=((p+((i:Int)+1))%ns.length).toNat
 ·rw[if_pos e,<- e]
  unfold Zbx
  have hd:((x:Int)-p)%ns.length=i+1:=by
   rw[m2]
   rw[m1] at e
   split at e<;>split<;>omega
  rw[Ui (by omega),Uz (by omega)];omega
 ·rw[if_neg e]
  unfold Zbx
  have hd:((x:Int)-p)%ns.length≠i+1:=by
   intro z
   apply e
   rw[m2] at z
   rw[m1]
   split at z<;>split<;>omega
  by_cases q:1<=((x:Int)-p)%ns.length/\((x:Int)-p)%ns.length<=i
  ·rw[Uz q,Uz (by omega)]
  ·rw[Ui q,Ui (by omega)]
theorem Zb8(h0:0<=p)(h1:p<ns.length):∀i:Nat,(i:Int)<ns.length->(tab ns.length (Zbx ns p i)).sum=ns.sum+ns.length*(ns.getD p.toNat 0/ns.length)-ns.getD p.toNat 0+i
 |0,_=>by
  have:=ZaC h0 h1
  rw[Int.natCast_zero,<- this,Qj (by simp;omega)]
  have e:=Q2 ns (ns.getD p.toNat 0/ns.length)
  rw[e]
  have e2:(ns.map fun v=>v+ns.getD p.toNat 0/ns.length).getD p.toNat 0=ns.getD p.toNat 0+ns.getD p.toNat 0/ns.length:=by
   have hx:p.toNat<ns.length:=by omega
   rw[ZsG,ZsM,ZsH hx]
   simp[hx]
  rw[e2];omega
 |i+1,hi=>by
  have ih:=Zb8 h0 h1 i (by omega)
  have m1:=QD h0 h1 (show (0:Int)<=(i:Int)+1 by omega) (by omega)
  have hlt:((p+((i:Int)+1))%ns.length).toNat<ns.length:=by rw[m1];split<;>omega
  rw[<- Zdz h0 h1 (by omega),Qj (by rw[Jk];exact hlt),ih,Qy hlt];omega
theorem ZgZ(h0:0<=p)(h1:p<ns.length)(hs:0<=ns.getD p.toNat 0):(Vz ns p).sum=ns.sum:=by
 have b1:=Zt8 (ns.getD p.toNat 0) (show (ns.length:Int)≠0 by omega)
 have b2:=Ztx (ns.getD p.toNat 0) (show (0:Int)<ns.length by omega)
 have:=Zb8 h0 h1 (ns.getD p.toNat 0%ns.length).toNat (by omega)
 rw[Ztu b1] at this
 have e:=Int.mul_ediv_add_emod (ns.getD p.toNat 0) ns.length
 unfold Vz
 omega
theorem Zjt(hn:∀x∈ns,0<=x)(i:Int)(x:Nat)(hx:x<ns.length):0<=Zbx ns p i x:=by
 have h1:=hn _ (VE hx)
 have h2:0<=ns.getD p.toNat 0:=by
  by_cases hp:p.toNat<ns.length
  ·exact hn _ (VE hp)
  ·rw[ZsG,Zti (by omega)];exact Zub _
 have h3:=Int.ediv_nonneg h2 (show (0:Int)<=ns.length by omega)
 have h4:=Zc4 ns.length p i x
 unfold Zbx Zi8
 split<;>omega
end
noncomputable def run(f:Nat->Int):Nat->Nat->Nat
 |0,i=>i
 |k+1,i=>if 0<f i then run f k (i+1) else i
section
end
noncomputable def ZgH(a:List Int×Int):List Int×Int:=(Vz a.1 a.2,Zn0 a.1 a.2)
noncomputable def its{α:Type}(f:α->α):Nat->α->α
 |0,a=>a
 |n+1,a=>f (its f n a)
section
end
end My
namespace My
open PySem L2
noncomputable abbrev ZcB(a:List Int×Int):PV:=.tup [.lst (a.1.map PV.int),.int a.2]
noncomputable def Ue(ns:List Int):Bool:=decide (2<=ns.length/\ns.length<=24/\(∀x∈ns,0<=x)/\ns.sum<=10^60)
theorem Za3{ns:List Int}:Ue ns=true ↔ Zmw ns:=by
 unfold Ue
 rw[decide_eq_true_iff]
 exact⟨fun⟨a,b,c,d⟩=>⟨a,b,c,d⟩,fun h=>⟨h.lo,h.hi,h.nn,h.sm⟩⟩
end My
namespace L2
noncomputable def ZlO(p s:Int):Int:=p*s%(p+1)
noncomputable def ZnC(p s:Int):Int:=p*s/(p+1)
noncomputable def Zju(s:Int):Nat->Int
 |0=>s
 |k+1=>ZnC (k+1) (Zju s k)
noncomputable def ZlU(s:Int)(n:Nat):List Int:=(List.range n).map fun(k:Nat)=>ZlO (k+1) (Zju s k)
noncomputable def ZkH(s:Int):Nat->Nat->Nat
 |0,k=>k
 |n+1,k=>if 0<Zju s k then ZkH s n (k+1) else k
noncomputable def ZnG(s:Int):Nat:=ZkH s s.toNat 0
noncomputable def ZmA(s:Int):List Int:=ZlU s (ZnG s)
def ZgF(ns:List Int):Prop:=(∀x∈ns,0<=x)/\ns.length<=200/\ns.sum<=10000/\(ns=[]\/ns.getD (ns.length-1) 0≠0)
noncomputable instance (ns:List Int):Decidable (ZgF ns):=by unfold ZgF;infer_instance
def Zjh(ns:List Int):Prop:=ZgF ns/\ns=ZmA ns.sum
noncomputable instance (ns:List Int):Decidable (Zjh ns):=by unfold Zjh;infer_instance
noncomputable def s2(ns:List Int)(r:Nat):Nat->Int
 |0=>0
 |i+1=>s2 ns r i+if i%2=r then ns.getD i 0 else 0
theorem Zgb{ns:List Int}{i:Nat}(h:i<ns.length):ns.getD i 0∈ns:=by
 rw[ZsG,ZsH h];exact Zux _
noncomputable def hs:Nat->Nat->Int->List Int
 |_,0,_=>[]
 |k,m+1,l=>ZlO (k+1) l::hs (k+1) m (ZnC (k+1) l)
noncomputable def s3(ns:List Int)(r:Nat):Nat->Int
 |0=>0
 |i+1=>s3 ns r i+if i%3=r then ns.getD i 0 else 0
def Zjg(ns:List Int):Prop:=(∀x∈ns,0<=x)/\ns.length<=100/\ns.sum<=100/\(ns=[]\/(ns.getD 0 0≠0/\ns.getD (ns.length-1) 0≠0))
noncomputable instance (ns:List Int):Decidable (Zjg ns):=by unfold Zjg;infer_instance
theorem Zbd{ns:List Int}{i:Nat}(h:ns.length<=i):ns.getD i 0=0:=by
 rw[ZsG,Zti h];rfl
theorem Zga{ns:List Int}(h:∀x∈ns,0<=x)(i:Nat):0<=ns.getD i 0:=by
 by_cases z:i<ns.length
 ·exact h _ (Zgb z)
 ·rw[Zbd (by omega)];omega
theorem sum_nn:∀{ns:List Int},(∀x∈ns,0<=x)->0<=ns.sum
 |[],_=>by simp
 |x::xs,h=>by
  have:=h x (by simp)
  have:=sum_nn (ns:=xs) (fun y hy=>h y (by simp[hy]))
  simp;omega
theorem getD_set{l:List Int}{i j:Nat}{v:Int}(h:i<l.length):(l.set i v).getD j 0=if i=j then v else l.getD j 0:=by
 simp only[ZsG,List.getElem?_set,if_pos h]
 split<;>rfl
theorem Zh9{l:List Int}{x:Int}(h:x∈l):∃i,i<l.length/\x=l.getD i 0:=by
 obtain⟨i,hi,rfl⟩:=List.getElem_of_mem h
 exact⟨i,hi,by rw[ZsG,ZsH hi];rfl⟩
noncomputable def Jq(ns:List Int)(k:Nat):Int:=ns.getD k 0%10^61
noncomputable def Uw(ns:List Int)(later m:Nat):Nat->List Int
 |0=>List.replicate m 0
 |i+1=>(Uw ns later m i).set (i%m) (((Uw ns later m i).getD (i%m) 0*3+ns.getD (later+i) 0%10^61)%10^62)
@[simp] theorem V6(ns:List Int)(later m:Nat):∀i,(Uw ns later m i).length=m
 |0=>by simp[Uw]
 |i+1=>by rw[Uw,Zu1,V6]
theorem Zdx(ns:List Int)(later m:Nat):∀i,∀x∈Uw ns later m i,0<=x/\x<10^62
 |0=>fun x hx=>by rw[Uw] at hx;rw[List.eq_of_mem_replicate hx];decide
 |i+1=>fun x hx=>by
  rw[Uw] at hx
  rcases List.mem_or_eq_of_mem_set hx with h|h
  ·exact Zdx ns later m i x h
  ·rw[h];omega
theorem Zkj{l:List Int}{P:Int->Prop}(h:∀x∈l,P x)(h0:P 0)(i:Nat):P (l.getD i 0):=by
 by_cases q:i<l.length
 ·rw[ZsG,ZsH q];exact h _ (Zux q)
 ·rw[Zbd (by omega)];exact h0
noncomputable def Zc1(ns:List Int)(later m:Nat):List Int:=Uw ns later m (ns.length-later)
@[simp] theorem Zb6(ns:List Int)(later m:Nat):(Zc1 ns later m).length=m:=V6 ..
noncomputable def stir(c j:Int):Int:=((c%2147483647+1009*j+7)*48271%2147483647)*((c%2147483647+1009*j+7)*48271%2147483647)%998244353/8
noncomputable def ZkM(t b:Int):Nat->Int
 |0=>t
 |j+1=>ZkM t b j/b
noncomputable def ZiV(t b:Int)(m:Nat):List Int:=(List.range m).map fun(j:Nat)=>ZkM t b j%b
theorem Zgk(t b:Int)(m:Nat):ZiV t b (m+1)=ZiV t b m++[ZkM t b m%b]:=by simp[ZiV,ZtZ]
@[simp] theorem ZcP(t b:Int)(m:Nat):(ZiV t b m).length=m:=by simp[ZiV]
noncomputable def Zhc(ns:List Int)(skip many base:Int)(mixed:Bool):List Int:=
 if mixed=true then (List.range many.toNat).map fun(j:Nat)=>stir ((Zc1 ns skip.toNat (max 1 many.toNat)).getD j 0) j%base
 else ZiV ((ns.drop skip.toNat).map fun(c:Int)=>c%10^61).sum base many.toNat
@[simp] theorem Zc6(ns:List Int)(skip many base:Int)(mixed:Bool):(Zhc ns skip many base mixed).length=many.toNat:=by unfold Zhc;split<;>simp
theorem Zjx(ns:List Int)(skip many:Int){base:Int}(hb:0<base)(mixed:Bool):∀x∈Zhc ns skip many base mixed,0<=x/\x<base:=fun x hx=>by
 unfold Zhc at hx
 split at hx
 ·obtain⟨j,_,rfl⟩:=ZsV.mp hx
  exact⟨Zt8 _ (by omega),Ztx _ hb⟩
 ·obtain⟨j,_,rfl⟩:=ZsV.mp hx
  exact⟨Zt8 _ (by omega),Ztx _ hb⟩
end L2
namespace My
open L2
noncomputable def ZmD(ns:List Int)(k:Int):List Int:=tab ns.length fun x=>ns.getD (((x:Int)-k)%ns.length).toNat 0
noncomputable def ZmC(a:List Int×Int)(s:Nat):Int:=((its ZgH s a).2-a.2)%a.1.length
def isT(a:List Int×Int)(s:Nat):Prop:=(its ZgH s a).1=ZmD a.1 (ZmC a s)
noncomputable instance (a:List Int×Int) (s:Nat):Decidable (isT a s):=by unfold isT;infer_instance
noncomputable def lsF(bs:List Int)(p:Int)(i:Nat)(x:Nat):Int:=(if (x:Int)=p then 0 else bs.getD x 0)+if ((x:Int)-(p+1))%bs.length<i then bs.getD p.toNat 0/bs.length+(if ((x:Int)-(p+1))%bs.length<bs.getD p.toNat 0%bs.length then 1 else 0) else 0
section
variable {bs:List Int}{p:Int}
theorem ZjW(h0:0<=p)(h1:p<bs.length):bs.set p.toNat 0=tab bs.length (lsF bs p 0):=by
 refine Za8 (by simp) fun x hx=>?_
 rw[L2.getD_set (by omega)]
 unfold lsF
 have:=Zt8 ((x:Int)-(p+1)) (show (bs.length:Int)≠0 by omega)
 rw[if_neg (show ¬((x:Int)-(p+1))%bs.length<((0:Nat):Int) by omega)]
 by_cases c:p.toNat=x
 ·rw[if_pos c,if_pos (by omega)];omega
 ·rw[if_neg c,if_neg (by omega)];omega
theorem ZjX(h0:0<=p)(h1:p<bs.length){i:Nat}(hi:i<bs.length) :
  (tab bs.length (lsF bs p i)).set ((p+1+i)%bs.length).toNat (lsF bs p i ((p+1+i)%bs.length).toNat+bs.getD p.toNat 0/bs.length+(if (i:Int)<bs.getD p.toNat 0%bs.length then 1 else 0))=tab bs.length (lsF bs p (i+1)):=by
 have hn:(0:Int)<bs.length:=by omega
 have y0:=Zt8 (p+1+i) (show (bs.length:Int)≠0 by omega)
 have y1:=Ztx (p+1+i) hn
 rw[ZeT (by omega)]
 refine Qz fun x hx=>?_
 have d0:=Zt8 ((x:Int)-(p+1)) (show (bs.length:Int)≠0 by omega)
 have d1:=Ztx ((x:Int)-(p+1)) hn
 have key:((x:Int)-(p+1))%bs.length=i ↔ x=((p+1+i)%bs.length).toNat:=by
  constructor
  ·intro e
   have:(p+1+i)%bs.length=x:=by
    rw[<- e,Int.add_emod_emod,show p+1+((x:Int)-(p+1))=x by omega,Ztt (by omega) (by omega)]
   omega
  ·intro e
   have:(x:Int)=(p+1+i)%bs.length:=by omega
   rw[this,Int.emod_sub_emod,show p+1+(i:Int)-(p+1)=i by omega,Ztt (by omega) (by omega)]
 by_cases c:x=((p+1+i)%bs.length).toNat
 ·rw[if_pos c,<- c]
  have hk:=key.mpr c
  unfold lsF
  rw[hk,if_neg (show ¬(i:Int)<(i:Int) by omega),if_pos (show (i:Int)<((i+1:Nat):Int) by omega)]
  omega
 ·rw[if_neg c]
  have hk:¬((x:Int)-(p+1))%bs.length=i:=fun z=>c (key.mp z)
  unfold lsF
  by_cases q:((x:Int)-(p+1))%bs.length<i
  ·rw[if_pos q,if_pos (show ((x:Int)-(p+1))%bs.length<((i+1:Nat):Int) by omega)]
  ·rw[if_neg q,if_neg (show ¬((x:Int)-(p+1))%bs.length<((i+1:Nat):Int) by omega)]
theorem Zl9(h0:0<=p)(h1:p<bs.length):tab bs.length (lsF bs p bs.length)=Vz bs p:=by
 have hn:(0:Int)<bs.length:=by omega
 refine Qz fun x hx=>?_
 have d0:=Zt8 ((x:Int)-(p+1)) (show (bs.length:Int)≠0 by omega)
 have d1:=Ztx ((x:Int)-(p+1)) hn
 have o1:=Ztx (bs.getD p.toNat 0) hn
 have e:((x:Int)-p)%bs.length=if ((x:Int)-(p+1))%bs.length+1=bs.length then 0 else ((x:Int)-(p+1))%bs.length+1:=by
  have:((x:Int)-p)%bs.length=(((x:Int)-(p+1))%bs.length+1)%bs.length:=by
   rw[Int.emod_add_emod,show (x:Int)-(p+1)+1=x-p by omega]
  rw[this]
  split
  ·rename_i c;rw[c,Int.emod_self]
  ·exact Ztt (by omega) (by omega)
 have e2:(if 1<=((x:Int)-p)%bs.length/\((x:Int)-p)%bs.length<=bs.getD p.toNat 0%bs.length then (1:Int) else 0)=if ((x:Int)-(p+1))%bs.length<bs.getD p.toNat 0%bs.length then 1 else 0:=by
  generalize ((x:Int)-p)%bs.length=D at e
  subst e
  by_cases q:((x:Int)-(p+1))%bs.length<bs.getD p.toNat 0%bs.length
  ·rw[if_pos q]
   apply if_pos
   split<;>omega
  ·rw[if_neg q]
   apply if_neg
   split<;>omega
 unfold lsF Zbx Zi8 ZgI
 rw[if_pos d1,e2]
 omega
theorem Zl8(p s n:Int):(p+s)%n=(p+s%n)%n:=by rw[Int.add_emod_emod]
end
end My
namespace My
open PySem PySem.Spec PyProof.Rows L2
theorem V9{ns:List Int}{k:Int}(h0:0<=k)(h1:k<ns.length):pIx (.tup (ns.map PV.int)) (.int k)=.ok (.int (ns.getD k.toNat 0)):=Qn (ns:=ns) h0 h1
theorem Zex{ns:List Int}:ZgL [.tup (ns.map PV.int)]=.ok (.int ns.length):=by simp[ZgL]
theorem ZhX{xs:List PV}:PV.flat (.tup xs)=PV.flats xs:=by simp[PV.flat]
theorem Zaw{ns:List Int}:PV.flat (.tup (ns.map PV.int))=true:=by rw[ZhX];exact QR
theorem ZbW{ns:List Int}:grd (.tup (ns.map PV.int))=.ok (.tup (ns.map PV.int)):=by unfold grd;rw[Zaw];rfl
theorem Ziv{xs:List PV}:Znj (.tup xs)=.ok xs:=rfl
noncomputable def tI(b:List Int):List Key:=b.map Sum.inl
theorem Qf(b:List Int):ZR b=.tup ((tI b).map ZdS):=by unfold ZR tI;rw[Ztd];rfl
theorem ZbX{α:Type}{q:α->PV}(h:∀a,PV.flat (q a)=true):∀L:List α,PV.flats (L.map q)=true
 |[]=>by simp[PV.flats]
 |a::L=>by
  rw[ZsW]
  simp only[PV.flats,h a,ZbX h L,Bool.and_self]
theorem ZjS{xs:List PV}(h:PV.flats xs=true)(hl:xs.length<=1000000):newF xs=.ok (.lst xs):=by
 unfold newF
 rw[h,decide_eq_true hl];rfl
theorem ZfD{α:Type}{q:α->PV}{L:List α}(h:∀a,PV.flat (q a)=true)(hl:L.length<=1000000):newF (L.map q)=.ok (.lst (L.map q)):=ZjS (ZbX h L) (by simpa using hl)
theorem JP(t:List Int):PV.flat (ZR t)=true:=Zaw
theorem Zb5{a b:List Int}(h:tI a=tI b):a=b:=by
 unfold tI at h
 exact(Zuj fun x y h=>Sum.inl.inj h).mp h
section
variable {κ:Type} [DecidableEq κ] {α:Type}{k:κ}{ks:List κ}
theorem U3(h:k ∉ ks):Q5 ks k=ks++[k]:=if_neg h
theorem U2{xs:List α}{y:α}(h:k ∉ ks):Uj ks xs k y=xs++[y]:=if_neg h
end
section
variable {ks:List (List Key)}{xs:List PV}{p:Option PySem.Addr}{g:List Int}{v:PV}
theorem Zmi:dAt (.box p (.dt ks) xs) (ZR g)=some (atK ks xs (tI g)):=by
 rw[Qf]
 simp only[dAt,Vk,Zu7]
theorem VB(h:atK ks xs (tI g)=some v):Zh3 (.box p (.dt ks) xs) (ZR g)=.ok v:=by
 unfold Zh3
 rw[Zmi,h]
theorem Zf5{f:Bool->Bool}:Zm0 f (ZR g) (.box p (.dt ks) xs)=.ok (.bl (f (atK ks xs (tI g)).isSome)):=by
 unfold Zm0
 rw[Zmi]
theorem ZaO(hv:v.flat=true)(hl:xs.length<1000000):Zh2 (.box p (.dt ks) xs) (ZR g) v=.ok (.box p (.dt (Q5 ks (tI g))) (Uj ks xs (tI g) v)):=by
 rw[Qf]
 unfold Zh2
 simp only[Vk]
 rw[if_pos ⟨hl,.inr hv⟩]
theorem Zem:∀{ks:List (List Key)}{xs:List PV}{k:List Key},k ∉ ks->atK ks xs k=none
 |[],_,_,_=>by unfold atK;rfl
 |k'::ks,[],k,_=>by unfold atK;rfl
 |k'::ks,x::xs,k,h=>by
  unfold atK
  rw[if_neg (fun e=>h (by rw[e];exact Zt5 ..)),Zem fun z=>h (Ztk _ z)]
theorem ZgC:∀{ks:List (List Key)}{xs:List PV}{k:List Key},ks.length=xs.length->k∈ks->∃x,atK ks xs k=some x
 |[],_,_,_,h=>by simp at h
 |k'::ks,[],k,h,_=>by simp at h
 |k'::ks,x::xs,k,h,hm=>by
  unfold atK
  by_cases e:k'=k
  ·rw[if_pos e];exact⟨x,rfl⟩
  ·rw[if_neg e]
   exact ZgC (by simpa using h) ((ZsT.mp hm).resolve_left fun z=>e z.symm)
end
noncomputable def Vh(x:Int×List Int):PV:=.tup [.int x.1,ZR x.2]
end My
namespace L2
noncomputable def cbI(s:Int):Nat->Int
 |0=>1
 |k+1=>cbI s k*(s+((k:Int)+1))/((k:Int)+1)
theorem Zg4{s:Int}(h:0<=s):∀k,0<=cbI s k
 |0=>by simp[cbI]
 |k+1=>by
  rw[cbI]
  exact Int.ediv_nonneg (Int.mul_nonneg (Zg4 h k) (by omega)) (by omega)
theorem ZiZ{s:Int}(h:0<=s)(h1:s<=10^60):∀k:Nat,k<=1000->cbI s k<=(10^61)^k
 |0,_=>by simp[cbI]
 |k+1,hk=>by
  have ih:=ZiZ h h1 k (by omega)
  have nn:=Zg4 h k
  rw[cbI]
  have e1:cbI s k*(s+((k:Int)+1))<=(10^61)^k*10^61:=Int.mul_le_mul ih (by omega) (by omega) (Int.pow_nonneg (by decide))
  have e2:cbI s k*(s+((k:Int)+1))/((k:Int)+1)<=cbI s k*(s+((k:Int)+1)):=Int.ediv_le_self _ (Int.mul_nonneg nn (by omega))
  rw[Int.pow_succ]
  omega
noncomputable def cbN(p s:Int):Int:=if s<0 then 0 else cbI s (p-1).toNat
theorem Zg3{s:Int}(h:0<=s)(h1:s<=10^60){k:Nat}(hk:k<=24):(cbI s k).natAbs<2^60000:=by
 have h2:=ZiZ h h1 k (by omega)
 have h3:=Zg4 h k
 have h4:((10:Int)^61)^k<=(10^61)^24:=by
  have:((10:Nat)^61)^k<=(10^61)^24:=ZuH (by decide) hk
  exact_mod_cast this
 have h5:((10:Int)^61)^24=10^1464:=by rw[<- Int.pow_mul]
 have h6:(cbI s k).natAbs<=10^1464:=by
  have:cbI s k<=10^1464:=by rw[<- h5];exact Zvc h2 h4
  have e:((cbI s k).natAbs:Int)=cbI s k:=Int.natAbs_of_nonneg h3
  have:((cbI s k).natAbs:Int)<=((10^1464:Nat):Int):=by rw[e];exact_mod_cast this
  exact_mod_cast this
 have h7:10^1464<2^60000:=by
  calc (10:Nat)^1464<=(2^4)^1464:=ZuO (by decide) _
   _=2^5856:=by rw[<- Nat.pow_mul]
   _<2^60000:=ZuJ (by decide) (by decide)
 omega
noncomputable def bN:Nat->Nat->Nat
 |0=>fun _=>1
 |s+1=>fun k=>Nat.rec 1 (fun k ih=>bN s (k+1)+ih) k
@[simp] theorem ZnQ(s:Nat):bN s 0=1:=by cases s<;>rfl
@[simp] theorem ZnP(k:Nat):bN 0 k=1:=by exact id rfl
theorem Zdc(s k:Nat):bN (s+1) (k+1)=bN s (k+1)+bN (s+1) k:=rfl
theorem Zmo:∀n s k,s+k=n->(k+1)*bN s (k+1)=(s+k+1)*bN s k/\(s+1)*bN (s+1) k=(s+k+1)*bN s k:=by
 intro n
 induction n using Nat.strongRecOn with
 |ind n ih =>
  intro s k h
  constructor
  ·cases s with
   |zero=>simp
   |succ s =>
    have h1:=(ih (s+k) (by omega) s k rfl).1
    have h2:=(ih (s+k) (by omega) s k rfl).2
    rw[Zdc,Nat.mul_add,h1,<- h2,<- Nat.add_mul]
    congr 1
  ·cases k with
   |zero=>simp
   |succ k =>
    have h1:=(ih (s+k) (by omega) s k rfl).1
    have h2:=(ih (s+k) (by omega) s k rfl).2
    rw[Zdc,Nat.mul_add,h2,<- h1,<- Nat.add_mul]
    congr 1
    omega
theorem Zja(s:Nat):∀k:Nat,cbI s k=(bN s k:Nat)
 |0=>by simp[cbI]
 |k+1=>by
  have h:=(Zmo (s+k) s k rfl).1
  rw[cbI,Zja s k]
  have e:((bN s k:Nat):Int)*((s:Int)+((k:Int)+1))=((k:Int)+1)*(bN s (k+1):Nat):=by
   have:(((k+1)*bN s (k+1):Nat):Int)=(((s+k+1)*bN s k:Nat):Int):=by rw[h]
   rw[Int.natCast_mul,Int.natCast_mul] at this
   rw[show ((k:Int)+1)=((k+1:Nat):Int) by omega,this,Int.mul_comm]
   congr 1
  rw[e,Int.mul_ediv_cancel_left _ (by omega)]
theorem Za2{p s:Int}(hs:0<=s):cbN p s=(bN s.toNat (p-1).toNat:Nat):=by
 unfold cbN
 rw[if_neg (by omega)]
 have:=Zja s.toNat (p-1).toNat
 rwa [Ztu hs] at this
theorem ZcY{p s:Int}(hs:s<0):cbN p s=0:=if_pos hs
theorem Zg2(p s:Int):0<=cbN p s:=by
 by_cases h:s<0
 ·rw[ZcY h];exact Zub _
 ·rw[Za2 (by omega)];omega
theorem ZcX{s:Int}(hs:0<=s):cbN 1 s=1:=by rw[Za2 hs];simp
theorem Zeh(p:Int):cbN p 0=1:=by rw[Za2 (Zub _)];simp
theorem Zbq{p s:Int}(hp:2<=p)(hs:0<=s):cbN p s=cbN p (s-1)+cbN (p-1) s:=by
 by_cases h:s=0
 ·subst h
  rw[ZcY (p:=p) (s:=0-1) (by omega),Zeh,Zeh];rfl
 ·rw[Za2 hs,Za2 (p:=p) (s:=s-1) (by omega),Za2 (p:=p-1) hs]
  obtain⟨t,ht⟩:∃t:Nat,s=t+1:=⟨(s-1).toNat,by omega⟩
  obtain⟨q,hq⟩:∃q:Nat,p=q+2:=⟨(p-2).toNat,by omega⟩
  subst ht
  subst hq
  rw[show ((t:Int)+1).toNat=t+1 by omega,show ((q:Int)+2-1).toNat=q+1 by omega,show ((t:Int)+1-1).toNat=t by omega,show ((q:Int)+2-1-1).toNat=q by omega,Zdc]
  omega
theorem Zei{p s t:Int}(hp:1<=p)(h:s<=t):cbN p s<=cbN p t:=by
 by_cases hs:s<0
 ·rw[ZcY hs];exact Zg2 p t
 ·obtain⟨d,rfl⟩:∃d:Nat,t=s+d:=⟨(t-s).toNat,by omega⟩
  induction d with
  |zero=>simp
  |succ d ih =>
   have ih:=ih (by omega)
   by_cases h1:p=1
   ·subst h1;rw[ZcX (by omega),ZcX (by omega)];omega
   ·have h2:=Zbq (p:=p) (s:=s+((d+1:Nat):Int)) (by omega) (by omega)
    rw[show s+((d+1:Nat):Int)-1=s+(d:Int) by omega] at h2
    have:=Zg2 (p-1) (s+((d+1:Nat):Int))
    omega
noncomputable def ZgP:List Int->Int
 |[]=>0
 |[_]=>0
 |_::y::r=>cbN (((y::r).length:Int)+1) ((y::r).sum-1)+ZgP (y::r)
theorem Zbv:∀(l:List Int),l≠[]->(∀x∈l,0<=x)->0<=ZgP l/\ZgP l+1<=cbN l.length l.sum
 |[],h,_=>absurd rfl h
 |[x],_,hn=>by
  have hx:=hn x (by simp)
  simp only[ZgP,Ztq,Zu3,Zup,List.sum_nil]
  rw[show ((0+1:Nat):Int)=1 by rfl,ZcX (by omega)]
  omega
 |x::y::r,_,hn=>by
  have hx:=hn x (by simp)
  have hr:∀z∈y::r,0<=z:=fun z hz=>hn z (by simp only[ZsT] at hz ⊢;right;exact hz)
  have hs:=sum_nn hr
  obtain⟨h1,h2⟩:=Zbv (y::r) (by simp) hr
  rw[ZgP]
  have h3:=Zg2 (((y::r).length:Int)+1) ((y::r).sum-1)
  refine⟨by omega, ?_⟩
  have h4:=Zbq (p:=((y::r).length:Int)+1) (s:=(y::r).sum) (by simp only[Ztq];omega) hs
  rw[show ((y::r).length:Int)+1-1=(y::r).length by omega] at h4
  have h5:=Zei (p:=((y::r).length:Int)+1) (s:=(y::r).sum) (t:=(x::y::r).sum) (by omega) (by simp only[Zup];omega)
  rw[show (((x::y::r).length:Nat):Int)=((y::r).length:Int)+1 by simp only[Ztq];omega]
  omega
noncomputable def ZfC(l:List Int):Int:=cbN l.length l.sum-1-ZgP l
theorem ZjR{l:List Int}(h:l≠[])(hn:∀x∈l,0<=x):0<=ZfC l/\ZfC l<cbN l.length l.sum:=by
 have:=Zbv l h hn
 unfold ZfC
 omega
theorem ZfB:∀{a b:List Int},a.length=b.length->a.sum=b.sum->(∀x∈a,0<=x)->(∀x∈b,0<=x)->a≠[] ->
  (∃i,i<a.length/\(∀j,j<i->a.getD j 0=b.getD j 0)/\a.getD i 0<b.getD i 0)->ZgP b<ZgP a
 |[],_,_,_,_,_,h,_=>absurd rfl h
 |[x],b,hl,hs,_,_,_,hd=>by
  obtain⟨i,hi,h1,h2⟩:=hd
  simp at hi
  subst hi
  match b,hl with
  |[z],_=>simp at hs h2;omega
 |x::y::r,b,hl,hs,hna,hnb,_,hd=>by
  match b,hl with
  |z::w::q,hl =>
   have hra:∀v∈y::r,0<=v:=fun v hv=>hna v (by simp only[ZsT] at hv ⊢;right;exact hv)
   have hrb:∀v∈w::q,0<=v:=fun v hv=>hnb v (by simp only[ZsT] at hv ⊢;right;exact hv)
   have hlen:(y::r).length=(w::q).length:=by simpa using hl
   have sa:=sum_nn hra
   have sb:=sum_nn hrb
   obtain⟨i,hi,h1,h2⟩:=hd
   rw[ZgP,ZgP]
   have hsum:x+(y::r).sum=z+(w::q).sum:=by simpa[Zup] using hs
   cases i with
   |zero =>
    have h2:x<z:=by simpa using h2
    obtain⟨b1,b2⟩:=Zbv (w::q) (by simp) hrb
    have a1:=(Zbv (y::r) (by simp) hra).1
    have h4:=Zbq (p:=((w::q).length:Int)+1) (s:=(w::q).sum) (by simp only[Ztq];omega) sb
    rw[show ((w::q).length:Int)+1-1=(w::q).length by omega] at h4
    have h5:=Zei (p:=((w::q).length:Int)+1) (s:=(w::q).sum) (t:=(y::r).sum-1) (by omega) (by omega)
    rw[hlen]
    omega
   |succ i =>
    have hxz:x=z:=by simpa using h1 0 (by omega)
    have ih:=ZfB (a:=y::r) (b:=w::q) hlen (by omega) hra hrb (by simp) ⟨i,by simpa using hi,fun j hj=>by simpa using h1 (j+1) (by omega),by simpa using h2⟩
    rw[hlen,show (y::r).sum=(w::q).sum by omega]
    omega
end L2
namespace My
open L2
end My
namespace L2
end L2
namespace My
open L2
end My
namespace L2
noncomputable def tri:Nat->Int
 |0=>0
 |k+1=>tri k+(k+1)
noncomputable def kN(s:Int):Nat:=((List.range (s.toNat+1)).find? fun(k:Nat)=>decide (s<tri (k+1))).getD 0
noncomputable def adI(l:List Int)(k i:Nat):Int:=l.getD i 0-((k:Int)-i)
structure ZnW(l:List Int)(k:Nat):Prop where
 lo:tri k<=l.sum
 hi:l.sum<tri (k+1)
 ad:∀i,i<=k->0<=adI l k i/\adI l k i<=1
 z:∀i,k<i->l.getD i 0=0
noncomputable def ZnM:Bool:=(List.range 63).all fun n=>(List.range (n+1)).all fun m=>(List.range (n+1)).all fun a =>
 ((a*Nat.gcd (n+1) m%(n+1)==0)==(a%((n+1)/Nat.gcd (n+1) m)==0))&&(a*Nat.gcd (n+1) m/(n+1)==a/((n+1)/Nat.gcd (n+1) m))&&decide (a/((n+1)/Nat.gcd (n+1) m)<=Nat.gcd (n+1) m)&&decide (0<Nat.gcd (n+1) m)&&decide (0<(n+1)/Nat.gcd (n+1) m)&&decide (Nat.gcd (n+1) m<=n+1)
theorem ZlQ:ZnM=true:=by decide +kernel
structure Gd(n m a:Nat):Prop where
 mod:a*Nat.gcd n m%n=0 ↔ a%(n/Nat.gcd n m)=0
 div:a*Nat.gcd n m/n=a/(n/Nat.gcd n m)
 le:a/(n/Nat.gcd n m)<=Nat.gcd n m
 p1:0<Nat.gcd n m
 p2:0<n/Nat.gcd n m
 le2:Nat.gcd n m<=n
theorem gd{n m a:Nat}(h1:n<=63)(hm:m<n)(ha:a<n):Gd n m a:=by
 have h:=Zt4.mp (Zt4.mp (Zt4.mp ZlQ (n-1) (Ztv.mpr (by omega))) m (Ztv.mpr (by omega))) a (Ztv.mpr (by omega))
 rw[show n-1+1=n by omega] at h
 simp only[Bool.and_eq_true,beq_iff_eq,decide_eq_true_eq] at h
 obtain⟨⟨⟨⟨⟨h1,h2⟩,h3⟩,h4⟩,h5⟩,h6⟩:=h
 refine⟨?_,h2,h3,h4,h5,h6⟩
 rw[<- beq_iff_eq (a:=a*Nat.gcd n m%n),<- beq_iff_eq (a:=a%(n/Nat.gcd n m)),h1]
end L2
namespace L2
open PySem
end L2
namespace My
open PySem L2
theorem Zha{b:List Int}{p:Int}{x:Nat}(hx:x<b.length):(Vz b p).getD x 0=Zbx b p (b.getD p.toNat 0%b.length) x:=by
 unfold Vz tab
 rw[ZsG,ZsM,Zt6 hx];rfl
end My
namespace L2
end L2
namespace My
open PySem L2
def Wide(ns:List Int):Prop:=∀x∈ns,0<=x/\x<=10^60
end My
namespace My
open L2
theorem Zn9:∀{x y:List Int},HT.Z1 x y=true->∃i,i<y.length/\(∀j,j<i->x.getD j 0=y.getD j 0)/\(x.getD i 0<y.getD i 0\/x.length<=i)
 |[],[],h=>by simp[HT.Z1] at h
 |[],b::y,h=>⟨0,by simp,by simp,.inr (by simp)⟩
 |a::x,[],h=>by simp[HT.Z1] at h
 |a::x,b::y,h=>by
  rw[HT.JJ] at h
  by_cases e:a=b
  ·rw[if_pos e] at h
   obtain⟨i,h1,h2,h3⟩:=Zn9 h
   refine⟨i+1,by simp;exact h1,fun j hj=>?_, ?_⟩
   ·cases j with
    |zero=>simpa using e
    |succ j=>simpa using h2 j (by omega)
   ·rcases h3 with z|z
    ·exact .inl (by simpa using z)
    ·exact .inr (by simpa using z)
  ·rw[if_neg e] at h
   exact⟨0,by simp,by simp,.inl (by simpa using h)⟩
end My
namespace L2
open PySem PyProof.Rows
structure V0(prog:Program)(w:World)(A:Around)(s:Shared)(κ:SortKind)(U:Keyed->Prop)(R:Keyed->Keyed->Bool)(Ok:Keyed->Keyed->Prop):Prop where
 ask:∀x y,U x->U y->Ok x y->∀(Q:Bool->Shared->Prop),Q (R x y) s->wpAny (model prog w) A (keyLt' κ x.1 y.1) Q (fun _ _=>False) s
 asy:∀x y,U x->U y->R x y=true->R y x=false
 tr:∀x y z,U x->U y->U z->R y x=false->R z y=false->R z x=false
section
variable {prog:Program}{w:World}{A:Around}{E:Value->Shared->Prop}{s:Shared}{κ:SortKind}{U:Keyed->Prop}{R:Keyed->Keyed->Bool}{Ok:Keyed->Keyed->Prop}
theorem Qv(C:V0 prog w A s κ U R Ok){st:SortSt}{x y:Keyed}{Q:Option Bool->SortSt->Prop}(hk:kindOf st=κ)(ux:U x)(uy:U y)(ok:Ok x y)(h:Q (some (R x y)) st):wpS (model prog w) A E s (lt' x y) Q st:=by
 rw[lt'_eq]
 refine wpS_bind (wpS_get ?_)
 rw[hk]
 refine wpS_bind (wpS_lift (wpAny_attempt (wpAny_mono (C.ask x y ux uy ok (fun b s'=>s'=s/\b=R x y) ⟨rfl,rfl⟩) (fun b s' q=>?_) fun _ _ q=>q.elim)))
 obtain⟨rfl,rfl⟩:=q
 exact⟨rfl,wpS_pure h⟩
theorem Zo{st:SortSt}{arr:Array Keyed}{i:Nat}{x:Keyed}{Q:Keyed->SortSt->Prop}(hx:arr[i]?=some x)(h:Q x st):wpS (model prog w) A E s (elem' arr i) Q st:=by
 rw[elem'_eq,hx]
 exact wpS_pure h
end
noncomputable def VF:Bool->Keyed->Array Keyed->Nat->Nat->Nat->StateT SortSt Sem (Option Nat):=sortPriv% PySem.Builtin.gallop
noncomputable def Zev(left:Bool)(key:Keyed)(arr:Array Keyed)(base:Nat)(i:Nat):StateT SortSt Sem (Option Bool):=do
 let x <- elem' arr (base+i)
 if left then lt' x key else return (<- lt' key x).map (!·)
theorem Ze8(left:Bool)(key:Keyed)(arr:Array Keyed)(base n hint:Nat):VF left key arr base n hint=(do
  let mut u:=0
  let mut v:=1
  let mut a:=0
  let mut b:=0
  let some r <- Zev left key arr base hint|return none
  if r then
   let w:=n-hint
   for _ in [0:n] do
    if v ≥ w then break
    let some m <- Zev left key arr base (hint+v)|return none
    if !m then break
    u:=v
    v:=2*v+1
   a:=hint+u+1
   b:=hint+min v w
  else
   let w:=hint+1
   for _ in [0:n] do
    if v ≥ w then break
    let some m <- Zev left key arr base (hint-v)|return none
    if m then break
    u:=v
    v:=2*v+1
   a:=hint+1-min v w
   b:=hint-u
  for _ in [0:n] do
   if a ≥ b then break
   let c:=a+(b-a)/2
   let some m <- Zev left key arr base c|return none
   if m then a:=c+1 else b:=c
  return some b):=rfl
section
variable {prog:Program}{w:World}{A:Around}{E:Value->Shared->Prop}{s:Shared}{κ:SortKind}{U:Keyed->Prop}{R:Keyed->Keyed->Bool}{Ok:Keyed->Keyed->Prop}
structure Qa(U:Keyed->Prop)(R:Keyed->Keyed->Bool)(Ok:Keyed->Keyed->Prop)(left:Bool)(key:Keyed)(arr:Array Keyed)(base n:Nat)(P:Nat->Bool):Prop where
 uk:U key
 it:∀i,i<n->∃x,arr[base+i]?=some x/\U x/\(if left=true then Ok x key else Ok key x)/\P i=(if left=true then R x key else !R key x)
 mono:∀i j,i<=j->j<n->P j=true->P i=true
theorem Uv(C:V0 prog w A s κ U R Ok){st:SortSt}{left:Bool}{key:Keyed}{arr:Array Keyed}{base n i:Nat}{P:Nat->Bool}{Q:Option Bool->SortSt->Prop}(hk:kindOf st=κ)(K:Qa U R Ok left key arr base n P)(hi:i<n)(h:Q (some (P i)) st) :
  wpS (model prog w) A E s (Zev left key arr base i) Q st:=by
 obtain⟨x,hx,ux,ok,hp⟩:=K.it i hi
 unfold Zev
 refine wpS_bind (Zo hx ?_)
 cases left with
 |true =>
  rw[if_pos rfl] at hp ok ⊢
  exact Qv C hk ux K.uk ok (by rw[<- hp];exact h)
 |false =>
  rw[if_neg (by decide)] at hp ok ⊢
  exact wpS_bind (Qv C hk K.uk ux ok (wpS_pure (by rw[Zu7,<- hp];exact h)))
theorem ZL(C:V0 prog w A s κ U R Ok){st:SortSt}{left:Bool}{key:Keyed}{arr:Array Keyed}{base n hint:Nat}{P:Nat->Bool}{Q:Option Nat->SortSt->Prop}(hk:kindOf st=κ)(K:Qa U R Ok left key arr base n P)(hh:hint<n)(h:∀k,k<=n->(∀i,i<k->P i=true)->(∀i,k<=i->i<n->P i=false)->Q (some k) st):wpS (model prog w) A E s (VF left key arr base n hint) Q st:=by
 rw[Ze8]
 refine wpS_bind (Uv C hk K hh ?_)
 dsimp only
 have down:∀{i j},i<=j->j<n->P i=false->P j=false:=fun {i j} h1 h2 h3=>by
  cases hj:P j with
  |false=>rfl
  |true=>rw[K.mono i j h1 h2 hj] at h3;cases h3
 cases hP:P hint with
 |true =>
  rw[if_pos rfl]
  refine wpS_bind (wpS_mono (wpS_forRange (I:=fun x (c:Option (Option Nat)×Nat×Nat) (st':SortSt)=>st'=st/\c.1=none/\P (hint+c.2.1)=true/\hint+c.2.1<n/\c.2.1<c.2.2/\x+1<=c.2.2)
   (Q:=fun(c:Option (Option Nat)×Nat×Nat) (st':SortSt)=>st'=st/\c.1=none/\P (hint+c.2.1)=true/\hint+c.2.1<n/\c.2.1<c.2.2/\(n-hint<=c.2.2\/(c.2.2<n-hint/\P (hint+c.2.2)=false))) ?_ ?_ ⟨rfl,rfl,by simpa using hP,by simpa using hh,Nat.zero_lt_one,ZsN _⟩) ?_)
  ·rintro x ⟨o,u,v⟩ st' _ hx ⟨rfl,rfl,q1,q2,q3,q4⟩
   dsimp only at q1 q2 q3 q4 ⊢
   by_cases hv:v ≥ n-hint
   ·rw[if_pos hv]
    exact wpS_pure ⟨rfl,rfl,q1,q2,q3,.inl hv⟩
   ·rw[if_neg hv]
    refine wpS_bind (Uv C hk K (by omega) ?_)
    dsimp only
    cases hm:P (hint+v) with
    |true =>
     rw[if_neg (by decide)]
     exact wpS_pure ⟨rfl,rfl,hm,by dsimp only;omega,by dsimp only;omega,by dsimp only;omega⟩
    |false =>
     rw[if_pos (by decide)]
     exact wpS_pure ⟨rfl,rfl,q1,q2,q3,.inr ⟨by dsimp only;omega,hm⟩⟩
  ·rintro⟨o,u,v⟩ st' ⟨rfl,rfl,q1,q2,q3,q4⟩
   dsimp only at q1 q2 q3 q4 ⊢
   exact⟨rfl,rfl,q1,q2,q3,.inl (by omega)⟩
  rintro⟨o,u,v⟩ st' ⟨hst,rfl,q1,q2,q3,q4⟩
  have hst:=hst.symm
  subst hst
  dsimp only at q1 q2 q3 q4 ⊢
  have ab:hint+u+1<=hint+min v (n-hint):=by omega
  have bn:hint+min v (n-hint)<=n:=by omega
  have pa:∀i,i<hint+u+1->P i=true:=fun i hi=>K.mono i (hint+u) (by omega) (by omega) q1
  have pb:∀i,hint+min v (n-hint)<=i->i<n->P i=false:=fun i h1 h2=>by
   rcases q4 with q4|⟨q4,q5⟩
   ·omega
   ·exact down (by omega) h2 q5
  refine wpS_bind (wpS_mono (wpS_forRange (I:=fun x (c:Option (Option Nat)×Nat×Nat) (st':SortSt)=>st'=st/\c.1=none/\c.2.1<=c.2.2/\c.2.2<=n/\(∀i,i<c.2.1->P i=true)/\(∀i,c.2.2<=i->i<n->P i=false)/\c.2.2-c.2.1<=n-x)
   (Q:=fun(c:Option (Option Nat)×Nat×Nat) (st':SortSt)=>st'=st/\c.1=none/\c.2.1=c.2.2/\c.2.2<=n/\(∀i,i<c.2.1->P i=true)/\(∀i,c.2.2<=i->i<n->P i=false)) ?_ ?_ ⟨rfl,rfl,ab,bn,pa,pb,by dsimp only;omega⟩) ?_)
  ·rintro x ⟨o,a,b⟩ st' _ hx ⟨rfl,rfl,q1,q2,q3,q4,q5⟩
   dsimp only at q1 q2 q3 q4 q5 ⊢
   by_cases hab:a ≥ b
   ·rw[if_pos hab]
    exact wpS_pure ⟨rfl,rfl,by dsimp only;omega,q2,q3,q4⟩
   ·rw[if_neg hab]
    refine wpS_bind (Uv C hk K (by omega) ?_)
    dsimp only
    cases hm:P (a+(b-a)/2) with
    |true =>
     rw[if_pos rfl]
     exact wpS_pure ⟨rfl,rfl,by dsimp only;omega,q2,fun i hi=>K.mono i (a+(b-a)/2) (by dsimp only at hi;omega) (by omega) hm,q4,by dsimp only;omega⟩
    |false =>
     rw[if_neg (by decide)]
     refine wpS_pure ⟨rfl,rfl,by dsimp only;omega,by dsimp only;omega,q3,fun i h1 h2=>?_,by dsimp only;omega⟩
     cases hi:P i with
     |false=>rfl
     |true=>rw[K.mono _ i h1 h2 hi] at hm;cases hm
  ·rintro⟨o,a,b⟩ st' ⟨rfl,rfl,q1,q2,q3,q4,q5⟩
   dsimp only at q1 q2 q3 q4 q5 ⊢
   exact⟨rfl,rfl,by omega,q2,q3,q4⟩
  ·rintro⟨o,a,b⟩ st' ⟨rfl,rfl,q1,q2,q3,q4⟩
   dsimp only at q1 q2 q3 q4 ⊢
   exact wpS_pure (h b q2 (by rw[<- q1];exact q3) q4)
 |false =>
  rw[if_neg (by decide)]
  refine wpS_bind (wpS_mono (wpS_forRange (I:=fun x (c:Option (Option Nat)×Nat×Nat) (st':SortSt)=>st'=st/\c.1=none/\P (hint-c.2.1)=false/\c.2.1<=hint/\c.2.1<c.2.2/\x+1<=c.2.2)
   (Q:=fun(c:Option (Option Nat)×Nat×Nat) (st':SortSt)=>st'=st/\c.1=none/\P (hint-c.2.1)=false/\c.2.1<=hint/\c.2.1<c.2.2/\(hint+1<=c.2.2\/(c.2.2<=hint/\P (hint-c.2.2)=true))) ?_ ?_ ⟨rfl,rfl,by simpa using hP,Zts _,Nat.zero_lt_one,ZsN _⟩) ?_)
  ·rintro x ⟨o,u,v⟩ st' _ hx ⟨rfl,rfl,q1,q2,q3,q4⟩
   dsimp only at q1 q2 q3 q4 ⊢
   by_cases hv:v ≥ hint+1
   ·rw[if_pos hv]
    exact wpS_pure ⟨rfl,rfl,q1,q2,q3,.inl hv⟩
   ·rw[if_neg hv]
    refine wpS_bind (Uv C hk K (by omega) ?_)
    dsimp only
    cases hm:P (hint-v) with
    |true =>
     rw[if_pos rfl]
     exact wpS_pure ⟨rfl,rfl,q1,q2,q3,.inr ⟨by dsimp only;omega,hm⟩⟩
    |false =>
     rw[if_neg (by decide)]
     exact wpS_pure ⟨rfl,rfl,hm,by dsimp only;omega,by dsimp only;omega,by dsimp only;omega⟩
  ·rintro⟨o,u,v⟩ st' ⟨rfl,rfl,q1,q2,q3,q4⟩
   dsimp only at q1 q2 q3 q4 ⊢
   exact⟨rfl,rfl,q1,q2,q3,.inl (by omega)⟩
  rintro⟨o,u,v⟩ st' ⟨hst,rfl,q1,q2,q3,q4⟩
  have hst:=hst.symm
  subst hst
  dsimp only at q1 q2 q3 q4 ⊢
  have ab:hint+1-min v (hint+1)<=hint-u:=by omega
  have bn:hint-u<=n:=by omega
  have pa:∀i,i<hint+1-min v (hint+1)->P i=true:=fun i hi=>by
   rcases q4 with q4|⟨q4,q5⟩
   ·omega
   ·exact K.mono i (hint-v) (by omega) (by omega) q5
  have pb:∀i,hint-u<=i->i<n->P i=false:=fun i h1 h2=>down h1 h2 q1
  refine wpS_bind (wpS_mono (wpS_forRange (I:=fun x (c:Option (Option Nat)×Nat×Nat) (st':SortSt)=>st'=st/\c.1=none/\c.2.1<=c.2.2/\c.2.2<=n/\(∀i,i<c.2.1->P i=true)/\(∀i,c.2.2<=i->i<n->P i=false)/\c.2.2-c.2.1<=n-x)
   (Q:=fun(c:Option (Option Nat)×Nat×Nat) (st':SortSt)=>st'=st/\c.1=none/\c.2.1=c.2.2/\c.2.2<=n/\(∀i,i<c.2.1->P i=true)/\(∀i,c.2.2<=i->i<n->P i=false)) ?_ ?_ ⟨rfl,rfl,ab,bn,pa,pb,by dsimp only;omega⟩) ?_)
  ·rintro x ⟨o,a,b⟩ st' _ hx ⟨rfl,rfl,q1,q2,q3,q4,q5⟩
   dsimp only at q1 q2 q3 q4 q5 ⊢
   by_cases hab:a ≥ b
   ·rw[if_pos hab]
    exact wpS_pure ⟨rfl,rfl,by dsimp only;omega,q2,q3,q4⟩
   ·rw[if_neg hab]
    refine wpS_bind (Uv C hk K (by omega) ?_)
    dsimp only
    cases hm:P (a+(b-a)/2) with
    |true =>
     rw[if_pos rfl]
     exact wpS_pure ⟨rfl,rfl,by dsimp only;omega,q2,fun i hi=>K.mono i (a+(b-a)/2) (by dsimp only at hi;omega) (by omega) hm,q4,by dsimp only;omega⟩
    |false =>
     rw[if_neg (by decide)]
     refine wpS_pure ⟨rfl,rfl,by dsimp only;omega,by dsimp only;omega,q3,fun i h1 h2=>?_,by dsimp only;omega⟩
     cases hi:P i with
     |false=>rfl
     |true=>rw[K.mono _ i h1 h2 hi] at hm;cases hm
  ·rintro⟨o,a,b⟩ st' ⟨rfl,rfl,q1,q2,q3,q4,q5⟩
   dsimp only at q1 q2 q3 q4 q5 ⊢
   exact⟨rfl,rfl,by omega,q2,q3,q4⟩
  ·rintro⟨o,a,b⟩ st' ⟨rfl,rfl,q1,q2,q3,q4⟩
   dsimp only at q1 q2 q3 q4 ⊢
   exact wpS_pure (h b q2 (by rw[<- q1];exact q3) q4)
end
noncomputable def ZaR:Array Keyed->Array Keyed->StateT SortSt Sem (Array Keyed):=sortPriv% PySem.Builtin.mergeLo
noncomputable def Zlb(g:Nat):StateT SortSt Sem Unit:=modify fun s=>SortSt.mk' (kindOf s) (arrOf s) (pendingOf s) g (failedOf s)
noncomputable def endA(a b o:Array Keyed)(i j:Nat):Array Keyed:=o++a.extract i a.size++b.extract j b.size
noncomputable def endB(a b o:Array Keyed)(i j:Nat):Array Keyed:=o++b.extract j b.size++a.extract i a.size
theorem ZcI(a b:Array Keyed):ZaR a b=(do
  rule "list.sort.merge-lo"
  let n:=a.size+b.size
  let mut o:Array Keyed:=#[<- elem' b 0]
  let mut i:=0
  let mut j:=1
  if j==b.size then return endA a b o i j
  if i+1==a.size then return endB a b o i j
  let mut g:=gallopOf (<- get)
  for _ in [0:n] do
   let mut x:=0
   let mut y:=0
   for _ in [0:n] do
    let some t <- lt' (<- elem' b j) (<- elem' a i)|return endA a b o i j
    if t then
     o:=o.push (<- elem' b j);j:=j+1;y:=y+1;x:=0
     if j==b.size then return endA a b o i j
     if y ≥ g then break
    else
     o:=o.push (<- elem' a i);i:=i+1;x:=x+1;y:=0
     if i+1==a.size then return endB a b o i j
     if x ≥ g then break
   rule "list.sort.gallop"
   g:=g+1
   for _ in [0:n] do
    if g>1 then g:=g-1
    Zlb g
    let some k <- VF false (<- elem' b j) a i (a.size-i) 0|return endA a b o i j
    x:=k
    if k>0 then
     o:=o++a.extract i (i+k);i:=i+k
     if i+1==a.size then return endB a b o i j
     if i==a.size then return endA a b o i j
    o:=o.push (<- elem' b j);j:=j+1
    if j==b.size then return endA a b o i j
    let some k <- VF true (<- elem' a i) b j (b.size-j) 0|return endA a b o i j
    y:=k
    if k>0 then
     o:=o++b.extract j (j+k);j:=j+k
     if j==b.size then return endA a b o i j
    o:=o.push (<- elem' a i);i:=i+1
    if i+1==a.size then return endB a b o i j
    if x<7&&y<7 then break
   g:=g+1
   Zlb g
  unsupported "internal:list.sort.merge-bound"):=rfl
def Srt(R:Keyed->Keyed->Bool)(l:List Keyed):Prop:=l.Pairwise fun x y=>R y x=false
structure MI(R:Keyed->Keyed->Bool)(a b o:List Keyed)(i j:Nat):Prop where
 perm:o.Perm (a.take i++b.take j)
 srt:Srt R o
 ga:∀x∈o,∀y∈a.drop i,R y x=false
 gb:∀x∈o,∀y∈b.drop j,R y x=false
 hi:i<=a.length
 hj:j<=b.length
section
variable {R:Keyed->Keyed->Bool}{a b o:List Keyed}{i j:Nat}
theorem VT(l:List Keyed)(i k:Nat):(l.drop i).take k++l.drop (i+k)=l.drop i:=by
 rw[<- List.drop_drop];exact Ztg k (l.drop i)
theorem Zds(l:List Keyed)(i k:Nat):l.take i++(l.drop i).take k=l.take (i+k):=(List.take_add).symm
theorem Srt.drop{l:List Keyed}(h:Srt R l)(i:Nat):Srt R (l.drop i):=h.sublist (List.drop_sublist i l)
theorem MI.pushA(M:MI R a b o i j)(sa:Srt R a)(k:Nat)(hk:i+k<=a.length)(hle:∀x∈(a.drop i).take k,∀y∈b.drop j,R y x=false):MI R a b (o++(a.drop i).take k) (i+k) j:=by
 have sd:=sa.drop i
 rw[<- VT a i k] at sd
 obtain⟨s1,s2,s3⟩:=ZsZ.mp sd
 refine⟨?_, ?_, ?_, ?_,hk,M.hj⟩
 ·rw[<- Zds]
  refine(M.perm.append_right _).trans ?_
  rw[ZsS,ZsS]
  exact List.Perm.append_left _ ZtQ
 ·exact ZsZ.mpr ⟨M.srt,s1,fun x hx y hy=>M.ga x hx y (Ztl hy)⟩
 ·intro x hx y hy
  rcases ZsO.mp hx with hx|hx
  ·exact M.ga x hx y (by rw[<- VT a i k];exact ZsL _ hy)
  ·exact s3 x hx y hy
 ·intro x hx y hy
  rcases ZsO.mp hx with hx|hx
  ·exact M.gb x hx y hy
  ·exact hle x hx y hy
theorem MI.pushB(M:MI R a b o i j)(sb:Srt R b)(k:Nat)(hk:j+k<=b.length)(hle:∀x∈(b.drop j).take k,∀y∈a.drop i,R y x=false):MI R a b (o++(b.drop j).take k) i (j+k):=by
 have sd:=sb.drop j
 rw[<- VT b j k] at sd
 obtain⟨s1,s2,s3⟩:=ZsZ.mp sd
 refine⟨?_, ?_, ?_, ?_,M.hi,hk⟩
 ·rw[<- Zds]
  refine(M.perm.append_right _).trans ?_
  rw[ZsS]
 ·exact ZsZ.mpr ⟨M.srt,s1,fun x hx y hy=>M.gb x hx y (Ztl hy)⟩
 ·intro x hx y hy
  rcases ZsO.mp hx with hx|hx
  ·exact M.ga x hx y hy
  ·exact hle x hx y hy
 ·intro x hx y hy
  rcases ZsO.mp hx with hx|hx
  ·exact M.gb x hx y (by rw[<- VT b j k];exact ZsL _ hy)
  ·exact s3 x hx y hy
theorem MI.all_perm(M:MI R a b o i j):(o++(a.drop i++b.drop j)).Perm (a++b):=by
 refine(M.perm.append_right _).trans ?_
 have e1:(a.take i++b.take j++(a.drop i++b.drop j))=a.take i++(b.take j++a.drop i)++b.drop j:=by simp[ZsS]
 rw[e1]
 have p1:(a.take i++(b.take j++a.drop i)++b.drop j).Perm (a.take i++(a.drop i++b.take j)++b.drop j):=(List.Perm.append_left _ ZtQ).append_right _
 refine p1.trans ?_
 have e2:a.take i++(a.drop i++b.take j)++b.drop j=(a.take i++a.drop i)++(b.take j++b.drop j):=by rw[ZsS,ZsS,ZsS]
 rw[e2,Ztg,Ztg]
theorem MI.endA(M:MI R a b o i j)(sa:Srt R a)(sb:Srt R b)(h:i=a.length\/j=b.length):Srt R (o++(a.drop i++b.drop j))/\(o++(a.drop i++b.drop j)).Perm (a++b):=by
 refine⟨?_,M.all_perm⟩
 refine ZsZ.mpr ⟨M.srt, ?_,fun x hx y hy=>?_⟩
 ·rcases h with h|h
  ·rw[h,List.drop_length,ZtP];exact sb.drop j
  ·rw[h,List.drop_length,ZtS];exact sa.drop i
 ·rcases ZsO.mp hy with hy|hy
  ·exact M.ga x hx y hy
  ·exact M.gb x hx y hy
theorem MI.endB(M:MI R a b o i j)(sa:Srt R a)(sb:Srt R b)(h:∀x∈b.drop j,∀y∈a.drop i,R y x=false):Srt R (o++(b.drop j++a.drop i))/\(o++(b.drop j++a.drop i)).Perm (a++b):=by
 refine⟨?_,(List.Perm.append_left _ ZtQ).trans M.all_perm⟩
 refine ZsZ.mpr ⟨M.srt,ZsZ.mpr ⟨sb.drop j,sa.drop i,h⟩,fun x hx y hy=>?_⟩
 rcases ZsO.mp hy with hy|hy
 ·exact M.gb x hx y hy
 ·exact M.ga x hx y hy
end
section
variable {prog:Program}{w:World}{A:Around}{s:Shared}{κ:SortKind}{U:Keyed->Prop}{R:Keyed->Keyed->Bool}{Ok:Keyed->Keyed->Prop}
noncomputable abbrev V1(st:SortSt)(g:Nat):SortSt:=SortSt.mk' (kindOf st) (arrOf st) (pendingOf st) g (failedOf st)
structure MLo(U:Keyed->Prop)(R:Keyed->Keyed->Bool)(Ok:Keyed->Keyed->Prop)(a b:Array Keyed):Prop where
 ua:∀x∈a.toList,U x
 ub:∀x∈b.toList,U x
 ok:∀x∈b.toList,∀y∈a.toList,Ok x y
 sa:Srt R a.toList
 sb:Srt R b.toList
 na:0<a.size
 nb:0<b.size
 fst:∀x y,b.toList[0]?=some x->a.toList[0]?=some y->R y x=false
 lst:∀x∈b.toList,∀y,a.toList[a.size-1]?=some y->R y x=false
theorem V0.irr(C:V0 prog w A s κ U R Ok){x:Keyed}(ux:U x):R x x=false:=by
 cases h:R x x with
 |false=>rfl
 |true=>have:=C.asy x x ux ux h;rw[h] at this;cases this
theorem V0.dropLe(C:V0 prog w A s κ U R Ok){l:List Keyed}{i:Nat}{x z:Keyed}(ul:∀y∈l,U y)(hs:Srt R l)(hz:l[i]?=some z)(ux:U x)(h:R z x=false):∀y∈l.drop i,R y x=false:=fun y hy=>by
 have hi:=(ZsJ.mp hz).1
 have e:l.drop i=z::l.drop (i+1):=by
  rw[Zte hi]
  rw[ZsH hi] at hz
  cases hz;rfl
 have uz:U z:=ul z (ZsK hz)
 have sd:=hs.drop i
 rw[e] at sd hy
 rcases ZsT.mp hy with rfl|hy'
 ·exact h
 ·have h2:=(ZtJ.mp sd).1 y hy'
  exact C.tr x z y ux uz (ul y (Zt0 hy')) h h2
theorem Srt.le(C:V0 prog w A s κ U R Ok){l:List Keyed}(ul:∀y∈l,U y)(hs:Srt R l){i j:Nat}{x y:Keyed}(hij:i<=j)(hx:l[i]?=some x)(hy:l[j]?=some y):R y x=false:=by
 by_cases e:i=j
 ·subst e
  rw[hx] at hy;cases hy
  exact C.irr (ul x (ZsK hx))
 ·have hi:=(ZsJ.mp hx)
  have hj:=(ZsJ.mp hy)
  have:=ZtE.mp hs i j hi.1 hj.1 (by omega)
  rw[hi.2,hj.2] at this
  exact this
theorem ZgV(a b o:Array Keyed)(i j:Nat):(endA a b o i j).toList=o.toList++(a.toList.drop i++b.toList.drop j):=by
 simp only[endA,Zud,ZtX,ZsS,Zt2]
 rw[Ztn (by simp),Ztn (by simp)]
theorem ZgU(a b o:Array Keyed)(i j:Nat):(endB a b o i j).toList=o.toList++(b.toList.drop j++a.toList.drop i):=by
 simp only[endB,Zud,ZtX,ZsS,Zt2]
 rw[Ztn (by simp),Ztn (by simp)]
theorem Qg{l:List Keyed}{i:Nat}{x:Keyed}(h:l[i]?=some x):(l.drop i).take 1=[x]:=by
 have hi:=(ZsJ.mp h)
 rw[Zte hi.1,hi.2];rfl
theorem UP{l:List Keyed}{i k:Nat}{x:Keyed}(h:x∈(l.drop i).take k):∃t,t<k/\l[i+t]?=some x:=by
 obtain⟨t,ht⟩:=Ztj h
 rw[Zto] at ht
 split at ht
 ·rename_i hk
  rw[Ztp] at ht
  exact⟨t,hk,ht⟩
 ·cases ht
theorem J7{l:List Keyed}{i:Nat}{x:Keyed}(h:x∈l.drop i):∃t,l[i+t]?=some x:=by
 obtain⟨t,ht⟩:=Ztj h
 rw[Ztp] at ht
 exact⟨t,ht⟩
theorem Zhp(C:V0 prog w A s κ U R Ok){l:Array Keyed}{key:Keyed}{i:Nat}(ul:∀y∈l.toList,U y)(hs:Srt R l.toList)(uk:U key)(okk:∀y∈l.toList,Ok key y)(hi:i<=l.size) :
  Qa U R Ok false key l i (l.size-i) (fun t=>!R key (l.getD (i+t) (.none,.none))):=by
 have get:∀t,t<l.size-i->l.toList[i+t]?=some (l.getD (i+t) (.none,.none))/\l[i+t]?=some (l.getD (i+t) (.none,.none)):=fun t ht=>by
  have hlt:i+t<l.size:=by omega
  have e:l.getD (i+t) (.none,.none)=l[i+t]:=by simp[Array.getD,hlt]
  rw[e]
  exact⟨by simp[hlt],by simp[hlt]⟩
 refine⟨uk,fun t ht=>⟨_,(get t ht).2,ul _ (ZsK (get t ht).1),by rw[if_neg (by decide)];exact okk _ (ZsK (get t ht).1),by rw[if_neg (by decide)]⟩,fun t u htu hu h=>?_⟩
 have hu':=get u hu
 have ht':=get t (by omega)
 have h1:R key (l.getD (i+u) (.none,.none))=false:=by simpa using h
 have h2:=Srt.le C ul hs (show i+t<=i+u by omega) ht'.1 hu'.1
 have:=C.tr _ _ key (ul _ (ZsK ht'.1)) (ul _ (ZsK hu'.1)) uk h2 h1
 show (!R key _)=true
 rw[this];rfl
theorem ZbH(C:V0 prog w A s κ U R Ok){l:Array Keyed}{key:Keyed}{i:Nat}(ul:∀y∈l.toList,U y)(hs:Srt R l.toList)(uk:U key)(okk:∀y∈l.toList,Ok y key)(hi:i<=l.size) :
  Qa U R Ok true key l i (l.size-i) (fun t=>R (l.getD (i+t) (.none,.none)) key):=by
 have get:∀t,t<l.size-i->l.toList[i+t]?=some (l.getD (i+t) (.none,.none))/\l[i+t]?=some (l.getD (i+t) (.none,.none)):=fun t ht=>by
  have hlt:i+t<l.size:=by omega
  have e:l.getD (i+t) (.none,.none)=l[i+t]:=by simp[Array.getD,hlt]
  rw[e]
  exact⟨by simp[hlt],by simp[hlt]⟩
 refine⟨uk,fun t ht=>⟨_,(get t ht).2,ul _ (ZsK (get t ht).1),by rw[if_pos rfl];exact okk _ (ZsK (get t ht).1),by rw[if_pos rfl]⟩,fun t u htu hu h=>?_⟩
 have hu':=get u hu
 have ht':=get t (by omega)
 cases hc:R (l.getD (i+t) (.none,.none)) key with
 |true=>rfl
 |false =>
  have h2:=Srt.le C ul hs (show i+t<=i+u by omega) ht'.1 hu'.1
  have:=C.tr key _ _ uk (ul _ (ZsK ht'.1)) (ul _ (ZsK hu'.1)) hc h2
  rw[this] at h;cases h
end
section
variable {prog:Program}{w:World}{A:Around}{E:Value->Shared->Prop}{s:Shared}{κ:SortKind}{U:Keyed->Prop}{R:Keyed->Keyed->Bool}{Ok:Keyed->Keyed->Prop}
def UV(R:Keyed->Keyed->Bool)(a b:Array Keyed)(st:SortSt)(r:Array Keyed)(st':SortSt):Prop:=Srt R r.toList/\r.toList.Perm (a.toList++b.toList)/\∃g,st'=V1 st g
def JLo(R:Keyed->Keyed->Bool)(a b:Array Keyed)(st:SortSt)(o:Array Keyed)(i j:Nat)(st':SortSt):Prop:=MI R a.toList b.toList o.toList i j/\i+1<a.size/\j<b.size/\∃g,st'=V1 st g
theorem VJ{st:SortSt}{g:Nat}{Q:Unit->SortSt->Prop}(h:Q () (V1 st g)):wpS (model prog w) A E s (Zlb g) Q st:=wpS_modify h
theorem Jz{l:Array Keyed}{i:Nat}(h:i<l.size):∃x,l[i]?=some x/\l.toList[i]?=some x/\x∈l.toList:=
 ⟨l[i],by simp[h],by simp[h],by simp⟩
section
variable {st st':SortSt}{a b o:Array Keyed}{i j:Nat}
theorem MLo.finA(M:MLo U R Ok a b)(m:MI R a.toList b.toList o.toList i j)(h:i=a.size\/j=b.size)(hg:∃g,st'=V1 st g):UV R a b st (endA a b o i j) st':=by
 obtain⟨h1,h2⟩:=m.endA M.sa M.sb (by simpa using h)
 rw[<- ZgV] at h1 h2
 exact⟨h1,h2,hg⟩
theorem MLo.finB(M:MLo U R Ok a b)(m:MI R a.toList b.toList o.toList i j)(h:i+1=a.size)(hg:∃g,st'=V1 st g):UV R a b st (endB a b o i j) st':=by
 obtain⟨h1,h2⟩:=m.endB M.sa M.sb fun x hx y hy=>M.lst x (Zt0 hx) y (by
  obtain⟨t,ht⟩:=J7 hy
  have hl:=(ZsJ.mp ht).1
  rw[ZsP] at hl
  rw[show a.size-1=i+t by omega];exact ht)
 rw[<- ZgU] at h1 h2
 exact⟨h1,h2,hg⟩
theorem MLo.a1(C:V0 prog w A s κ U R Ok)(M:MLo U R Ok a b)(m:MI R a.toList b.toList o.toList i j){x:Keyed}(hx:a.toList[i]?=some x)(hle:∀y∈b.toList.drop j,R y x=false):MI R a.toList b.toList (o.push x).toList (i+1) j:=by
 have hi:=(ZsJ.mp hx).1
 have:=m.pushA M.sa 1 (by omega) (by rw[Qg hx];intro y hy;rw[Ztf.mp hy];exact hle)
 rw[Qg hx] at this
 rw[Zu9];exact this
theorem MLo.b1(C:V0 prog w A s κ U R Ok)(M:MLo U R Ok a b)(m:MI R a.toList b.toList o.toList i j){x:Keyed}(hx:b.toList[j]?=some x)(hle:∀y∈a.toList.drop i,R y x=false):MI R a.toList b.toList (o.push x).toList i (j+1):=by
 have hj:=(ZsJ.mp hx).1
 have:=m.pushB M.sb 1 (by omega) (by rw[Qg hx];intro y hy;rw[Ztf.mp hy];exact hle)
 rw[Qg hx] at this
 rw[Zu9];exact this
theorem UN(l:Array Keyed)(i k:Nat):(o++l.extract i (i+k)).toList=o.toList++(l.toList.drop i).take k:=by
 simp only[Zud,ZtX,Zt2]
 rw[show i+k-i=k by omega]
end
theorem ZN{l:Array Keyed}{i:Nat}{x:Keyed}(h:l.toList[i]?=some x):l.getD i (.none,.none)=x:=by
 have hi:=ZsJ.mp h
 have hs:i<l.size:=by simpa using hi.1
 simp only[Array.getD,hs,dif_pos]
 exact hi.2
theorem Zcy(C:V0 prog w A s κ U R Ok){st:SortSt}{a b:Array Keyed}{Q:Array Keyed->SortSt->Prop}(hk:kindOf st=κ)(M:MLo U R Ok a b)(h:∀o st',UV R a b st o st'->Q o st'):wpS (model prog w) A E s (ZaR a b) Q st:=by
 rw[ZcI]
 obtain⟨b0,hb0,hb0l,hb0m⟩:=Jz M.nb
 obtain⟨a0,ha0,ha0l,ha0m⟩:=Jz M.na
 refine wpS_bind (wpS_lift (wpAny_rule ⟨rfl, ?_⟩))
 refine wpS_bind (Zo hb0 ?_)
 dsimp only
 have m0:MI R a.toList b.toList (#[]:Array Keyed).toList 0 0:=⟨by simp,List.Pairwise.nil,fun x hx=>by simp at hx,fun x hx=>by simp at hx,Zts _,Zts _⟩
 have m1:MI R a.toList b.toList (#[b0]:Array Keyed).toList 0 1:=MLo.b1 C M m0 hb0l (C.dropLe M.ua M.sa ha0l (M.ub _ hb0m) (M.fst _ _ hb0l ha0l))
 have g0:∃g,st=V1 st g:=⟨gallopOf st,rfl⟩
 by_cases c1:1=b.size
 ·rw[if_pos (by simpa using c1)]
  exact wpS_pure (h _ _ (M.finA m1 (.inr c1) g0))
 rw[if_neg (by simpa using c1)]
 by_cases c2:0+1=a.size
 ·rw[if_pos (by simpa using c2)]
  exact wpS_pure (h _ _ (M.finB m1 c2 g0))
 rw[if_neg (by simpa using c2)]
 refine wpS_bind (wpS_get ?_)
 have na:=M.na
 have nb:=M.nb
 refine wpS_bind (wpS_mono (wpS_forRange
  (I:=fun x (c:Option (Array Keyed)×Array Keyed×Nat×Nat×Nat) (st':SortSt)=>c.1=none/\JLo R a b st c.2.1 c.2.2.1 c.2.2.2.1 st'/\x+1<=c.2.2.1+c.2.2.2.1)
  (Q:=fun(c:Option (Array Keyed)×Array Keyed×Nat×Nat×Nat) (st':SortSt)=>∃r,c.1=some r/\UV R a b st r st') ?step ?fin ⟨rfl,⟨m1,by dsimp only;omega,by dsimp only;omega,g0⟩,ZsN _⟩) ?post)
 case fin =>
  rintro⟨o1,o,i,j,g⟩ st' ⟨h1,⟨h2,h3,h4,h5⟩,h6⟩
  dsimp only at h3 h4 h6
  omega
 case post =>
  rintro⟨o1,o,i,j,g⟩ st' ⟨r,h1,h2⟩
  dsimp only at h1
  subst h1
  exact wpS_pure (h _ _ h2)
 case step =>
  rintro x ⟨o1,o,i,j,g⟩ st1 _ hx ⟨rfl,J,hm⟩
  dsimp only at J hm ⊢
  refine wpS_bind (wpS_mono (wpS_forRange
   (I:=fun x' (c:Option (Array Keyed)×Array Keyed×Nat×Nat×Nat×Nat) (st':SortSt)=>c.1=none/\JLo R a b st c.2.1 c.2.2.1 c.2.2.2.1 st'/\i+j+x'<=c.2.2.1+c.2.2.2.1)
   (Q:=fun(c:Option (Array Keyed)×Array Keyed×Nat×Nat×Nat×Nat) (st':SortSt)=>(∃r,c.1=some r/\UV R a b st r st')\/(c.1=none/\JLo R a b st c.2.1 c.2.2.1 c.2.2.2.1 st'/\i+j+1<=c.2.2.1+c.2.2.2.1)) ?step1 ?fin1 ⟨rfl,J,ZsN _⟩) ?post1)
  case fin1 =>
   rintro⟨o1,o',i',j',u,v⟩ st' ⟨h1,h2,h3⟩
   dsimp only at h1 h2 h3
   exact .inr ⟨h1,h2,by dsimp only;omega⟩
  case step1 =>
   rintro x' ⟨o1,o',i',j',u,v⟩ st' _ hx' ⟨rfl,⟨m,hi,hj,gs,rfl⟩,hp⟩
   dsimp only at m hi hj hp ⊢
   obtain⟨y,hy,hyl,hym⟩:=Jz hj
   obtain⟨z,hz,hzl,hzm⟩:=Jz (show i'<a.size by omega)
   refine wpS_bind (Zo hy (wpS_bind (Zo hz (wpS_bind (Qv C hk (M.ub _ hym) (M.ua _ hzm) (M.ok _ hym _ hzm) ?_)))))
   dsimp only
   cases hR:R y z with
   |true =>
    rw[if_pos rfl]
    refine wpS_bind (Zo hy ?_)
    have m2:=MLo.b1 C M m hyl (C.dropLe M.ua M.sa hzl (M.ub _ hym) (C.asy _ _ (M.ub _ hym) (M.ua _ hzm) hR))
    by_cases e1:j'+1=b.size
    ·rw[if_pos (by simpa using e1)]
     exact wpS_pure (.inl ⟨_,rfl,M.finA m2 (.inr e1) ⟨gs,rfl⟩⟩)
    ·rw[if_neg (by simpa using e1)]
     have J2:JLo R a b st (o'.push y) i' (j'+1) (V1 st gs):=⟨m2,hi,by omega,gs,rfl⟩
     split
     ·exact wpS_pure (.inr ⟨rfl,J2,by dsimp only;omega⟩)
     ·exact wpS_pure ⟨rfl,J2,by dsimp only;omega⟩
   |false =>
    rw[if_neg (by decide)]
    refine wpS_bind (Zo hz ?_)
    have m2:=MLo.a1 C M m hzl (C.dropLe M.ub M.sb hyl (M.ua _ hzm) hR)
    by_cases e1:i'+1+1=a.size
    ·rw[if_pos (by simpa using e1)]
     exact wpS_pure (.inl ⟨_,rfl,M.finB m2 e1 ⟨gs,rfl⟩⟩)
    ·rw[if_neg (by simpa using e1)]
     have J2:JLo R a b st (o'.push z) (i'+1) j' (V1 st gs):=⟨m2,by omega,hj,gs,rfl⟩
     split
     ·exact wpS_pure (.inr ⟨rfl,J2,by dsimp only;omega⟩)
     ·exact wpS_pure ⟨rfl,J2,by dsimp only;omega⟩
  case post1 =>
   rintro⟨o1,o',i',j',u,v⟩ st' (⟨r,h1,h2⟩|⟨h1,h2,h3⟩)
   ·dsimp only at h1 h2 ⊢
    subst h1
    exact wpS_pure ⟨r,rfl,h2⟩
   ·dsimp only at h1 h2 h3 ⊢
    subst h1
    refine wpS_bind (wpS_lift (wpAny_rule ⟨rfl, ?_⟩))
    refine wpS_bind (wpS_mono (wpS_forRange
     (I:=fun _ (c:Option (Array Keyed)×Array Keyed×Nat×Nat×Nat×Nat×Nat) (st':SortSt)=>c.1=none/\JLo R a b st c.2.1 c.2.2.1 c.2.2.2.1 st'/\x+1+1<=c.2.2.1+c.2.2.2.1)
     (Q:=fun(c:Option (Array Keyed)×Array Keyed×Nat×Nat×Nat×Nat×Nat) (st':SortSt)=>(∃r,c.1=some r/\UV R a b st r st')\/(c.1=none/\JLo R a b st c.2.1 c.2.2.1 c.2.2.2.1 st'/\x+1+1<=c.2.2.1+c.2.2.2.1)) ?step2 (fun c st' hc=>.inr hc) ⟨rfl,h2,by dsimp only;omega⟩) ?post2)
    case post2 =>
     rintro⟨o1,o',i',j',g',u,v⟩ st' (⟨r,h1,h2⟩|⟨h1,h2,h3⟩)
     ·dsimp only at h1 h2 ⊢
      subst h1
      exact wpS_pure ⟨r,rfl,h2⟩
     ·dsimp only at h1 h2 h3 ⊢
      subst h1
      obtain⟨m,hi,hj,gs,rfl⟩:=h2
      exact wpS_bind (VJ (wpS_pure ⟨rfl,⟨m,hi,hj,_,rfl⟩,by dsimp only;omega⟩))
    case step2 =>
     clear h2 h3 J hm m0 m1
     rintro x' ⟨o1,o,i,j,g,u,v⟩ st' _ hx' ⟨rfl,⟨m,hi,hj,gs,rfl⟩,hp⟩
     dsimp only at m hi hj hp ⊢
     obtain⟨y,hy,hyl,hym⟩:=Jz hj
     by_cases hg1:g>1
     ·rw[if_pos hg1]
      refine wpS_bind (VJ ?_)
      refine wpS_bind (Zo hy (wpS_bind (ZL C (show kindOf (V1 _ _)=κ from hk) (Zhp C M.ua M.sa (M.ub _ hym) (M.ok _ hym) (show i<=a.size by omega)) (by omega) fun k p1 p2 p3=>?_)))
      dsimp only
      have fb2:∀z∈a.toList.drop (i+k),R z y=false:=fun z hz=>by
       obtain⟨t,ht⟩:=J7 hz
       have hl:=(ZsJ.mp ht).1
       rw[ZsP] at hl
       have:=p3 (k+t) (by omega) (by omega)
       rw[show i+(k+t)=i+k+t by omega,ZN ht] at this
       exact C.asy _ _ (M.ub _ hym) (M.ua _ (ZsK ht)) (by simpa using this)
      by_cases hk1:k>0
      ·rw[if_pos hk1]
       have m2:=m.pushA M.sa k (by rw[ZsP];omega) (fun x hx z hz=>by
        obtain⟨t,htk,ht⟩:=UP hx
        have h1:=p2 t htk
        rw[ZN ht] at h1
        exact C.dropLe M.ub M.sb hyl (M.ua x (ZsK ht)) (by simpa using h1) z hz)
       rw[<- UN] at m2
       by_cases e0:i+k+1=a.size
       ·rw[if_pos (by simpa using e0)]
        exact wpS_pure (.inl ⟨_,rfl,M.finB m2 e0 ⟨_,rfl⟩⟩)
       rw[if_neg (by simpa using e0)]
       by_cases e1:i+k=a.size
       ·rw[if_pos (by simpa using e1)]
        exact wpS_pure (.inl ⟨_,rfl,M.finA m2 (.inl e1) ⟨_,rfl⟩⟩)
       rw[if_neg (by simpa using e1)]
       have fb:=fb2
       refine wpS_bind (Zo hy ?_)
       have m2':=MLo.b1 C M m2 hyl fb
       by_cases e2:j+1=b.size
       ·rw[if_pos (by simpa using e2)]
        exact wpS_pure (.inl ⟨_,rfl,M.finA m2' (.inr e2) ⟨_,rfl⟩⟩)
       rw[if_neg (by simpa using e2)]
       obtain⟨z,hz,hzl,hzm⟩:=Jz (show i+k<a.size by omega)
       refine wpS_bind (Zo hz (wpS_bind (ZL C hk (ZbH C M.ub M.sb (M.ua _ hzm) (fun y hy=>M.ok y hy _ hzm) (show j+1<=b.size by omega)) (by omega) fun k2 q1 q2 q3=>?_)))
       dsimp only
       have fz2:∀y∈b.toList.drop (j+1+k2),R y z=false:=fun y hy=>by
        obtain⟨t,ht⟩:=J7 hy
        have hl:=(ZsJ.mp ht).1
        rw[ZsP] at hl
        have:=q3 (k2+t) (by omega) (by omega)
        rw[show j+1+(k2+t)=j+1+k2+t by omega,ZN ht] at this
        exact this
       by_cases hk2:k2>0
       ·rw[if_pos hk2]
        have m3:=m2'.pushB M.sb k2 (by rw[ZsP];omega) (fun x hx y hy=>by
         obtain⟨t,htk,ht⟩:=UP hx
         have h1:=q2 t htk
         rw[ZN ht] at h1
         have ux:=M.ub x (ZsK ht)
         have h2:=C.dropLe M.ua M.sa hzl ux (C.asy _ _ ux (M.ua _ hzm) h1)
         exact h2 y hy)
        rw[<- UN] at m3
        by_cases e3:j+1+k2=b.size
        ·rw[if_pos (by simpa using e3)]
         exact wpS_pure (.inl ⟨_,rfl,M.finA m3 (.inr e3) ⟨_,rfl⟩⟩)
        rw[if_neg (by simpa using e3)]
        have hj3:j+1+k2<b.size:=by omega
        have fz:=fz2
        refine wpS_bind (Zo hz ?_)
        have m4:=MLo.a1 C M m3 hzl fz
        by_cases e4:i+k+1+1=a.size
        ·rw[if_pos (by simpa using e4)]
         exact wpS_pure (.inl ⟨_,rfl,M.finB m4 e4 ⟨_,rfl⟩⟩)
        ·rw[if_neg (by simpa using e4)]
         split
         ·exact wpS_pure (.inr ⟨rfl,⟨m4,by dsimp only;omega,hj3,_,rfl⟩,by dsimp only;omega⟩)
         ·exact wpS_pure ⟨rfl,⟨m4,by dsimp only;omega,hj3,_,rfl⟩,by dsimp only;omega⟩
       ·rw[if_neg hk2]
        obtain rfl:k2=0:=by omega
        have m3:=m2'
        have hj3:j+1<b.size:=by omega
        have fz:∀y∈b.toList.drop (j+1),R y z=false:=fz2
        refine wpS_bind (Zo hz ?_)
        have m4:=MLo.a1 C M m3 hzl fz
        by_cases e4:i+k+1+1=a.size
        ·rw[if_pos (by simpa using e4)]
         exact wpS_pure (.inl ⟨_,rfl,M.finB m4 e4 ⟨_,rfl⟩⟩)
        ·rw[if_neg (by simpa using e4)]
         split
         ·exact wpS_pure (.inr ⟨rfl,⟨m4,by dsimp only;omega,hj3,_,rfl⟩,by dsimp only;omega⟩)
         ·exact wpS_pure ⟨rfl,⟨m4,by dsimp only;omega,hj3,_,rfl⟩,by dsimp only;omega⟩
      ·rw[if_neg hk1]
       obtain rfl:k=0:=by omega
       have m2:=m
       have fb:∀z∈a.toList.drop i,R z y=false:=fb2
       refine wpS_bind (Zo hy ?_)
       have m2':=MLo.b1 C M m2 hyl fb
       by_cases e2:j+1=b.size
       ·rw[if_pos (by simpa using e2)]
        exact wpS_pure (.inl ⟨_,rfl,M.finA m2' (.inr e2) ⟨_,rfl⟩⟩)
       rw[if_neg (by simpa using e2)]
       obtain⟨z,hz,hzl,hzm⟩:=Jz (show i<a.size by omega)
       refine wpS_bind (Zo hz (wpS_bind (ZL C hk (ZbH C M.ub M.sb (M.ua _ hzm) (fun y hy=>M.ok y hy _ hzm) (show j+1<=b.size by omega)) (by omega) fun k2 q1 q2 q3=>?_)))
       dsimp only
       have fz2:∀y∈b.toList.drop (j+1+k2),R y z=false:=fun y hy=>by
        obtain⟨t,ht⟩:=J7 hy
        have hl:=(ZsJ.mp ht).1
        rw[ZsP] at hl
        have:=q3 (k2+t) (by omega) (by omega)
        rw[show j+1+(k2+t)=j+1+k2+t by omega,ZN ht] at this
        exact this
       by_cases hk2:k2>0
       ·rw[if_pos hk2]
        have m3:=m2'.pushB M.sb k2 (by rw[ZsP];omega) (fun x hx y hy=>by
         obtain⟨t,htk,ht⟩:=UP hx
         have h1:=q2 t htk
         rw[ZN ht] at h1
         have ux:=M.ub x (ZsK ht)
         have h2:=C.dropLe M.ua M.sa hzl ux (C.asy _ _ ux (M.ua _ hzm) h1)
         exact h2 y hy)
        rw[<- UN] at m3
        by_cases e3:j+1+k2=b.size
        ·rw[if_pos (by simpa using e3)]
         exact wpS_pure (.inl ⟨_,rfl,M.finA m3 (.inr e3) ⟨_,rfl⟩⟩)
        rw[if_neg (by simpa using e3)]
        have hj3:j+1+k2<b.size:=by omega
        have fz:=fz2
        refine wpS_bind (Zo hz ?_)
        have m4:=MLo.a1 C M m3 hzl fz
        by_cases e4:i+1+1=a.size
        ·rw[if_pos (by simpa using e4)]
         exact wpS_pure (.inl ⟨_,rfl,M.finB m4 e4 ⟨_,rfl⟩⟩)
        ·rw[if_neg (by simpa using e4)]
         split
         ·exact wpS_pure (.inr ⟨rfl,⟨m4,by dsimp only;omega,hj3,_,rfl⟩,by dsimp only;omega⟩)
         ·exact wpS_pure ⟨rfl,⟨m4,by dsimp only;omega,hj3,_,rfl⟩,by dsimp only;omega⟩
       ·rw[if_neg hk2]
        obtain rfl:k2=0:=by omega
        have m3:=m2'
        have hj3:j+1<b.size:=by omega
        have fz:∀y∈b.toList.drop (j+1),R y z=false:=fz2
        refine wpS_bind (Zo hz ?_)
        have m4:=MLo.a1 C M m3 hzl fz
        by_cases e4:i+1+1=a.size
        ·rw[if_pos (by simpa using e4)]
         exact wpS_pure (.inl ⟨_,rfl,M.finB m4 e4 ⟨_,rfl⟩⟩)
        ·rw[if_neg (by simpa using e4)]
         split
         ·exact wpS_pure (.inr ⟨rfl,⟨m4,by dsimp only;omega,hj3,_,rfl⟩,by dsimp only;omega⟩)
         ·exact wpS_pure ⟨rfl,⟨m4,by dsimp only;omega,hj3,_,rfl⟩,by dsimp only;omega⟩
     ·rw[if_neg hg1]
      refine wpS_bind (VJ ?_)
      refine wpS_bind (Zo hy (wpS_bind (ZL C (show kindOf (V1 _ _)=κ from hk) (Zhp C M.ua M.sa (M.ub _ hym) (M.ok _ hym) (show i<=a.size by omega)) (by omega) fun k p1 p2 p3=>?_)))
      dsimp only
      have fb2:∀z∈a.toList.drop (i+k),R z y=false:=fun z hz=>by
       obtain⟨t,ht⟩:=J7 hz
       have hl:=(ZsJ.mp ht).1
       rw[ZsP] at hl
       have:=p3 (k+t) (by omega) (by omega)
       rw[show i+(k+t)=i+k+t by omega,ZN ht] at this
       exact C.asy _ _ (M.ub _ hym) (M.ua _ (ZsK ht)) (by simpa using this)
      by_cases hk1:k>0
      ·rw[if_pos hk1]
       have m2:=m.pushA M.sa k (by rw[ZsP];omega) (fun x hx z hz=>by
        obtain⟨t,htk,ht⟩:=UP hx
        have h1:=p2 t htk
        rw[ZN ht] at h1
        exact C.dropLe M.ub M.sb hyl (M.ua x (ZsK ht)) (by simpa using h1) z hz)
       rw[<- UN] at m2
       by_cases e0:i+k+1=a.size
       ·rw[if_pos (by simpa using e0)]
        exact wpS_pure (.inl ⟨_,rfl,M.finB m2 e0 ⟨_,rfl⟩⟩)
       rw[if_neg (by simpa using e0)]
       by_cases e1:i+k=a.size
       ·rw[if_pos (by simpa using e1)]
        exact wpS_pure (.inl ⟨_,rfl,M.finA m2 (.inl e1) ⟨_,rfl⟩⟩)
       rw[if_neg (by simpa using e1)]
       have fb:=fb2
       refine wpS_bind (Zo hy ?_)
       have m2':=MLo.b1 C M m2 hyl fb
       by_cases e2:j+1=b.size
       ·rw[if_pos (by simpa using e2)]
        exact wpS_pure (.inl ⟨_,rfl,M.finA m2' (.inr e2) ⟨_,rfl⟩⟩)
       rw[if_neg (by simpa using e2)]
       obtain⟨z,hz,hzl,hzm⟩:=Jz (show i+k<a.size by omega)
       refine wpS_bind (Zo hz (wpS_bind (ZL C hk (ZbH C M.ub M.sb (M.ua _ hzm) (fun y hy=>M.ok y hy _ hzm) (show j+1<=b.size by omega)) (by omega) fun k2 q1 q2 q3=>?_)))
       dsimp only
       have fz2:∀y∈b.toList.drop (j+1+k2),R y z=false:=fun y hy=>by
        obtain⟨t,ht⟩:=J7 hy
        have hl:=(ZsJ.mp ht).1
        rw[ZsP] at hl
        have:=q3 (k2+t) (by omega) (by omega)
        rw[show j+1+(k2+t)=j+1+k2+t by omega,ZN ht] at this
        exact this
       by_cases hk2:k2>0
       ·rw[if_pos hk2]
        have m3:=m2'.pushB M.sb k2 (by rw[ZsP];omega) (fun x hx y hy=>by
         obtain⟨t,htk,ht⟩:=UP hx
         have h1:=q2 t htk
         rw[ZN ht] at h1
         have ux:=M.ub x (ZsK ht)
         have h2:=C.dropLe M.ua M.sa hzl ux (C.asy _ _ ux (M.ua _ hzm) h1)
         exact h2 y hy)
        rw[<- UN] at m3
        by_cases e3:j+1+k2=b.size
        ·rw[if_pos (by simpa using e3)]
         exact wpS_pure (.inl ⟨_,rfl,M.finA m3 (.inr e3) ⟨_,rfl⟩⟩)
        rw[if_neg (by simpa using e3)]
        have hj3:j+1+k2<b.size:=by omega
        have fz:=fz2
        refine wpS_bind (Zo hz ?_)
        have m4:=MLo.a1 C M m3 hzl fz
        by_cases e4:i+k+1+1=a.size
        ·rw[if_pos (by simpa using e4)]
         exact wpS_pure (.inl ⟨_,rfl,M.finB m4 e4 ⟨_,rfl⟩⟩)
        ·rw[if_neg (by simpa using e4)]
         split
         ·exact wpS_pure (.inr ⟨rfl,⟨m4,by dsimp only;omega,hj3,_,rfl⟩,by dsimp only;omega⟩)
         ·exact wpS_pure ⟨rfl,⟨m4,by dsimp only;omega,hj3,_,rfl⟩,by dsimp only;omega⟩
       ·rw[if_neg hk2]
        obtain rfl:k2=0:=by omega
        have m3:=m2'
        have hj3:j+1<b.size:=by omega
        have fz:∀y∈b.toList.drop (j+1),R y z=false:=fz2
        refine wpS_bind (Zo hz ?_)
        have m4:=MLo.a1 C M m3 hzl fz
        by_cases e4:i+k+1+1=a.size
        ·rw[if_pos (by simpa using e4)]
         exact wpS_pure (.inl ⟨_,rfl,M.finB m4 e4 ⟨_,rfl⟩⟩)
        ·rw[if_neg (by simpa using e4)]
         split
         ·exact wpS_pure (.inr ⟨rfl,⟨m4,by dsimp only;omega,hj3,_,rfl⟩,by dsimp only;omega⟩)
         ·exact wpS_pure ⟨rfl,⟨m4,by dsimp only;omega,hj3,_,rfl⟩,by dsimp only;omega⟩
      ·rw[if_neg hk1]
       obtain rfl:k=0:=by omega
       have m2:=m
       have fb:∀z∈a.toList.drop i,R z y=false:=fb2
       refine wpS_bind (Zo hy ?_)
       have m2':=MLo.b1 C M m2 hyl fb
       by_cases e2:j+1=b.size
       ·rw[if_pos (by simpa using e2)]
        exact wpS_pure (.inl ⟨_,rfl,M.finA m2' (.inr e2) ⟨_,rfl⟩⟩)
       rw[if_neg (by simpa using e2)]
       obtain⟨z,hz,hzl,hzm⟩:=Jz (show i<a.size by omega)
       refine wpS_bind (Zo hz (wpS_bind (ZL C hk (ZbH C M.ub M.sb (M.ua _ hzm) (fun y hy=>M.ok y hy _ hzm) (show j+1<=b.size by omega)) (by omega) fun k2 q1 q2 q3=>?_)))
       dsimp only
       have fz2:∀y∈b.toList.drop (j+1+k2),R y z=false:=fun y hy=>by
        obtain⟨t,ht⟩:=J7 hy
        have hl:=(ZsJ.mp ht).1
        rw[ZsP] at hl
        have:=q3 (k2+t) (by omega) (by omega)
        rw[show j+1+(k2+t)=j+1+k2+t by omega,ZN ht] at this
        exact this
       by_cases hk2:k2>0
       ·rw[if_pos hk2]
        have m3:=m2'.pushB M.sb k2 (by rw[ZsP];omega) (fun x hx y hy=>by
         obtain⟨t,htk,ht⟩:=UP hx
         have h1:=q2 t htk
         rw[ZN ht] at h1
         have ux:=M.ub x (ZsK ht)
         have h2:=C.dropLe M.ua M.sa hzl ux (C.asy _ _ ux (M.ua _ hzm) h1)
         exact h2 y hy)
        rw[<- UN] at m3
        by_cases e3:j+1+k2=b.size
        ·rw[if_pos (by simpa using e3)]
         exact wpS_pure (.inl ⟨_,rfl,M.finA m3 (.inr e3) ⟨_,rfl⟩⟩)
        rw[if_neg (by simpa using e3)]
        have hj3:j+1+k2<b.size:=by omega
        have fz:=fz2
        refine wpS_bind (Zo hz ?_)
        have m4:=MLo.a1 C M m3 hzl fz
        by_cases e4:i+1+1=a.size
        ·rw[if_pos (by simpa using e4)]
         exact wpS_pure (.inl ⟨_,rfl,M.finB m4 e4 ⟨_,rfl⟩⟩)
        ·rw[if_neg (by simpa using e4)]
         split
         ·exact wpS_pure (.inr ⟨rfl,⟨m4,by dsimp only;omega,hj3,_,rfl⟩,by dsimp only;omega⟩)
         ·exact wpS_pure ⟨rfl,⟨m4,by dsimp only;omega,hj3,_,rfl⟩,by dsimp only;omega⟩
       ·rw[if_neg hk2]
        obtain rfl:k2=0:=by omega
        have m3:=m2'
        have hj3:j+1<b.size:=by omega
        have fz:∀y∈b.toList.drop (j+1),R y z=false:=fz2
        refine wpS_bind (Zo hz ?_)
        have m4:=MLo.a1 C M m3 hzl fz
        by_cases e4:i+1+1=a.size
        ·rw[if_pos (by simpa using e4)]
         exact wpS_pure (.inl ⟨_,rfl,M.finB m4 e4 ⟨_,rfl⟩⟩)
        ·rw[if_neg (by simpa using e4)]
         split
         ·exact wpS_pure (.inr ⟨rfl,⟨m4,by dsimp only;omega,hj3,_,rfl⟩,by dsimp only;omega⟩)
         ·exact wpS_pure ⟨rfl,⟨m4,by dsimp only;omega,hj3,_,rfl⟩,by dsimp only;omega⟩
end
noncomputable def ZaS:Array Keyed->Array Keyed->StateT SortSt Sem (Array Keyed):=sortPriv% PySem.Builtin.mergeHi
noncomputable def hiA(a b o:Array Keyed)(i j:Nat):Array Keyed:=a.extract 0 i++b.extract 0 j++o.reverse
noncomputable def hiB(a b o:Array Keyed)(i j:Nat):Array Keyed:=b.extract 0 j++a.extract 0 i++o.reverse
theorem ZcJ(a b:Array Keyed):ZaS a b=(do
  rule "list.sort.merge-hi"
  let n:=a.size+b.size
  let mut i:=a.size-1
  let mut j:=b.size
  let mut o:Array Keyed:=#[<- elem' a i]
  if i==0 then return hiA a b o i j
  if j==1 then return hiB a b o i j
  let mut g:=gallopOf (<- get)
  for _ in [0:n] do
   let mut x:=0
   let mut y:=0
   for _ in [0:n] do
    let some t <- lt' (<- elem' b (j-1)) (<- elem' a (i-1))|return hiA a b o i j
    if t then
     i:=i-1;o:=o.push (<- elem' a i);x:=x+1;y:=0
     if i==0 then return hiA a b o i j
     if x ≥ g then break
    else
     j:=j-1;o:=o.push (<- elem' b j);y:=y+1;x:=0
     if j==1 then return hiB a b o i j
     if y ≥ g then break
   rule "list.sort.gallop"
   g:=g+1
   for _ in [0:n] do
    if g>1 then g:=g-1
    Zlb g
    let some q <- VF false (<- elem' b (j-1)) a 0 i (i-1)|return hiA a b o i j
    let k:=i-q
    x:=k
    if k>0 then
     o:=o++(a.extract q i).reverse;i:=q
     if i==0 then return hiA a b o i j
    j:=j-1;o:=o.push (<- elem' b j)
    if j==1 then return hiB a b o i j
    let some q <- VF true (<- elem' a (i-1)) b 0 j (j-1)|return hiA a b o i j
    let k:=j-q
    y:=k
    if k>0 then
     o:=o++(b.extract q j).reverse;j:=q
     if j==1 then return hiB a b o i j
     if j==0 then return hiA a b o i j
    i:=i-1;o:=o.push (<- elem' a i)
    if i==0 then return hiA a b o i j
    if x<7&&y<7 then break
   g:=g+1
   Zlb g
  unsupported "internal:list.sort.merge-bound"):=rfl
structure MH(R:Keyed->Keyed->Bool)(a b q:List Keyed)(i j:Nat):Prop where
 perm:q.Perm (a.drop i++b.drop j)
 srt:Srt R q
 ga:∀x∈a.take i,∀y∈q,R y x=false
 gb:∀x∈b.take j,∀y∈q,R y x=false
 hi:i<=a.length
 hj:j<=b.length
section
variable {R:Keyed->Keyed->Bool}{a b q:List Keyed}{i j:Nat}
theorem Vg(l:List Keyed){c i:Nat}(h:c<=i):l.take c++(l.take i).drop c=l.take i:=by
 rw[show l.take c=(l.take i).take c by rw[List.take_take,ZuM h]]
 exact Ztg c (l.take i)
theorem Za0(l:List Keyed){c i:Nat}(h:c<=i):(l.take i).drop c++l.drop i=l.drop c:=by
 have e:l.take c++((l.take i).drop c++l.drop i)=l.take c++l.drop c:=by
  rw[<- ZsS,Vg l h,Ztg,Ztg]
 exact List.append_cancel_left e
theorem Srt.take{l:List Keyed}(h:Srt R l)(i:Nat):Srt R (l.take i):=h.sublist (ZuX i l)
theorem MH.pushA(M:MH R a b q i j)(sa:Srt R a){c:Nat}(hc:c<=i)(hle:∀x∈b.take j,∀y∈(a.take i).drop c,R y x=false):MH R a b ((a.take i).drop c++q) c j:=by
 have sd:=sa.take i
 rw[<- Vg a hc] at sd
 obtain⟨s1,s2,s3⟩:=ZsZ.mp sd
 refine⟨?_, ?_, ?_, ?_,Zth hc M.hi,M.hj⟩
 ·refine(List.Perm.append_left _ M.perm).trans ?_
  rw[<- ZsS,Za0 a hc]
 ·exact ZsZ.mpr ⟨s2,M.srt,fun x hx y hy=>M.ga x (Zt0 hx) y hy⟩
 ·intro x hx y hy
  rcases ZsO.mp hy with hy|hy
  ·exact s3 x hx y hy
  ·exact M.ga x (by rw[<- Vg a hc];exact ZsQ _ hx) y hy
 ·intro x hx y hy
  rcases ZsO.mp hy with hy|hy
  ·exact hle x hx y hy
  ·exact M.gb x hx y hy
theorem MH.pushB(M:MH R a b q i j)(sb:Srt R b){c:Nat}(hc:c<=j)(hle:∀x∈a.take i,∀y∈(b.take j).drop c,R y x=false):MH R a b ((b.take j).drop c++q) i c:=by
 have sd:=sb.take j
 rw[<- Vg b hc] at sd
 obtain⟨s1,s2,s3⟩:=ZsZ.mp sd
 refine⟨?_, ?_, ?_, ?_,M.hi,Zth hc M.hj⟩
 ·refine(List.Perm.append_left _ M.perm).trans ?_
  rw[<- Za0 b hc]
  have:∀X Y Z:List Keyed,(X++(Y++Z)).Perm (Y++(X++Z)):=fun X Y Z=>by
   rw[<- ZsS,<- ZsS]
   exact List.Perm.append_right _ ZtQ
  exact this _ _ _
 ·exact ZsZ.mpr ⟨s2,M.srt,fun x hx y hy=>M.gb x (Zt0 hx) y hy⟩
 ·intro x hx y hy
  rcases ZsO.mp hy with hy|hy
  ·exact hle x hx y hy
  ·exact M.ga x hx y hy
 ·intro x hx y hy
  rcases ZsO.mp hy with hy|hy
  ·exact s3 x hx y hy
  ·exact M.gb x (by rw[<- Vg b hc];exact ZsQ _ hx) y hy
theorem MH.all_perm(M:MH R a b q i j):(a.take i++(b.take j++q)).Perm (a++b):=by
 refine(List.Perm.append_left _ (List.Perm.append_left _ M.perm)).trans ?_
 have p1:∀X Y Z W:List Keyed,(X++(Y++(Z++W))).Perm ((X++Z)++(Y++W)):=fun X Y Z W=>by
  rw[ZsS]
  refine List.Perm.append_left _ ?_
  rw[<- ZsS,<- ZsS]
  exact List.Perm.append_right _ ZtQ
 refine(p1 _ _ _ _).trans ?_
 rw[Ztg,Ztg]
theorem MH.endA(M:MH R a b q i j)(sa:Srt R a)(sb:Srt R b)(h:i=0\/j=0):Srt R (a.take i++(b.take j++q))/\(a.take i++(b.take j++q)).Perm (a++b):=by
 refine⟨?_,M.all_perm⟩
 have sq:Srt R (b.take j++q):=ZsZ.mpr ⟨sb.take j,M.srt,M.gb⟩
 refine ZsZ.mpr ⟨sa.take i,sq,fun x hx y hy=>?_⟩
 rcases h with h|h
 ·rw[h,List.take_zero] at hx;simp at hx
 ·rw[h,List.take_zero,ZtP] at hy
  exact M.ga x hx y hy
theorem MH.endB(M:MH R a b q i j)(sa:Srt R a)(sb:Srt R b)(h:∀x∈b.take j,∀y∈a.take i,R y x=false):Srt R (b.take j++(a.take i++q))/\(b.take j++(a.take i++q)).Perm (a++b):=by
 refine⟨?_, ?_⟩
 ·refine ZsZ.mpr ⟨sb.take j,ZsZ.mpr ⟨sa.take i,M.srt,M.ga⟩,fun x hx y hy=>?_⟩
  rcases ZsO.mp hy with hy|hy
  ·exact h x hx y hy
  ·exact M.gb x hx y hy
 ·refine List.Perm.trans ?_ M.all_perm
  rw[<- ZsS,<- ZsS]
  exact List.Perm.append_right _ ZtQ
end
section
variable {prog:Program}{w:World}{A:Around}{E:Value->Shared->Prop}{s:Shared}{κ:SortKind}{U:Keyed->Prop}{R:Keyed->Keyed->Bool}{Ok:Keyed->Keyed->Prop}
theorem Qa.le{left:Bool}{key:Keyed}{arr:Array Keyed}{base n m:Nat}{P:Nat->Bool}(K:Qa U R Ok left key arr base m P)(h:n<=m):Qa U R Ok left key arr base n P:=
 ⟨K.uk,fun i hi=>K.it i (by omega),fun i j h1 h2 h3=>K.mono i j h1 (by omega) h3⟩
theorem V0.takeLe(C:V0 prog w A s κ U R Ok){l:List Keyed}{n:Nat}{v z:Keyed}(ul:∀y∈l,U y)(hs:Srt R l)(hn:0<n)(hz:l[n-1]?=some z)(uv:U v)(h:R v z=false):∀x∈l.take n,R v x=false:=fun x hx=>by
 obtain⟨t,ht⟩:=Ztj hx
 rw[Zto] at ht
 split at ht
 ·rename_i htn
  have h1:=Srt.le C ul hs (show t<=n-1 by omega) ht hz
  exact C.tr x z v (ul x (ZsK ht)) (ul z (ZsK hz)) uv h1 h
 ·cases ht
theorem U8{l:List Keyed}{i:Nat}{x:Keyed}(h:x∈l.take i):∃t,t<i/\l[t]?=some x:=by
 obtain⟨t,ht⟩:=Ztj h
 rw[Zto] at ht
 split at ht
 ·rename_i hi;exact⟨t,hi,ht⟩
 ·cases ht
theorem VP{l:List Keyed}{i c:Nat}{x:Keyed}(h:x∈(l.take i).drop c):∃t,(c<=t/\t<i)/\l[t]?=some x:=by
 obtain⟨t,ht⟩:=Ztj h
 rw[Ztp,Zto] at ht
 split at ht
 ·rename_i hi;exact⟨c+t,by omega,ht⟩
 ·cases ht
theorem Qh{l:List Keyed}{i:Nat}{x:Keyed}(hi:0<i)(h:l[i-1]?=some x):(l.take i).drop (i-1)=[x]:=by
 have hl:=ZsJ.mp h
 have e:(l.take i)[i-1]?=some x:=by rw[Zto,if_pos (by omega),h]
 have h2:=ZsJ.mp e
 rw[Zte h2.1,h2.2,ZtC (by rw[ZsY];omega)]
theorem Zjn(a b o:Array Keyed)(i j:Nat):(hiA a b o i j).toList=a.toList.take i++(b.toList.take j++o.toList.reverse):=by
 simp[hiA,ZsS,Zt2]
theorem Zjm(a b o:Array Keyed)(i j:Nat):(hiB a b o i j).toList=b.toList.take j++(a.toList.take i++o.toList.reverse):=by
 simp[hiB,ZsS,Zt2]
theorem UM(l o:Array Keyed)(q i:Nat):(o++(l.extract q i).reverse).toList.reverse=(l.toList.take i).drop q++o.toList.reverse:=by
 simp[Zt2,List.drop_take]
theorem Zdr(o:Array Keyed)(x:Keyed):(o.push x).toList.reverse=[x]++o.toList.reverse:=by simp
def JHi(R:Keyed->Keyed->Bool)(a b:Array Keyed)(st:SortSt)(o:Array Keyed)(i j:Nat)(st':SortSt):Prop:=MH R a.toList b.toList o.toList.reverse i j/\0<i/\1<j/\∃g,st'=V1 st g
section
variable {st st':SortSt}{a b o:Array Keyed}{i j:Nat}
theorem MLo.hfA(M:MLo U R Ok a b)(m:MH R a.toList b.toList o.toList.reverse i j)(h:i=0\/j=0)(hg:∃g,st'=V1 st g):UV R a b st (hiA a b o i j) st':=by
 obtain⟨h1,h2⟩:=m.endA M.sa M.sb h
 rw[<- Zjn] at h1 h2
 exact⟨h1,h2,hg⟩
theorem MLo.hfB(C:V0 prog w A s κ U R Ok)(M:MLo U R Ok a b)(m:MH R a.toList b.toList o.toList.reverse i j)(h:j=1)(hg:∃g,st'=V1 st g):UV R a b st (hiB a b o i j) st':=by
 obtain⟨a0,ha0,ha0l,ha0m⟩:=Jz M.na
 obtain⟨h1,h2⟩:=m.endB M.sa M.sb fun x hx y hy=>by
  obtain⟨t,ht,hx⟩:=U8 hx
  have ht0:t=0:=by omega
  rw[ht0] at hx
  have:=C.dropLe M.ua M.sa ha0l (M.ub _ (ZsK hx)) (M.fst _ _ hx ha0l)
  rw[Zuh] at this
  exact this y (Ztl hy)
 rw[<- Zjm] at h1 h2
 exact⟨h1,h2,hg⟩
theorem MLo.ha1(M:MLo U R Ok a b)(m:MH R a.toList b.toList o.toList.reverse i j){x:Keyed}(hi:0<i)(hx:a.toList[i-1]?=some x)(hle:∀y∈b.toList.take j,R x y=false):MH R a.toList b.toList (o.push x).toList.reverse (i-1) j:=by
 have:=m.pushA M.sa (c:=i-1) (by omega) (by rw[Qh hi hx];intro y hy z hz;rw[Ztf.mp hz];exact hle y hy)
 rw[Qh hi hx] at this
 rw[Zdr];exact this
theorem MLo.hb1(M:MLo U R Ok a b)(m:MH R a.toList b.toList o.toList.reverse i j){x:Keyed}(hj:0<j)(hx:b.toList[j-1]?=some x)(hle:∀y∈a.toList.take i,R x y=false):MH R a.toList b.toList (o.push x).toList.reverse i (j-1):=by
 have:=m.pushB M.sb (c:=j-1) (by omega) (by rw[Qh hj hx];intro y hy z hz;rw[Ztf.mp hz];exact hle y hy)
 rw[Qh hj hx] at this
 rw[Zdr];exact this
end
theorem Zcz(C:V0 prog w A s κ U R Ok){st:SortSt}{a b:Array Keyed}{Q:Array Keyed->SortSt->Prop}(hk:kindOf st=κ)(M:MLo U R Ok a b)(h:∀o st',UV R a b st o st'->Q o st'):wpS (model prog w) A E s (ZaS a b) Q st:=by
 rw[ZcJ]
 have na:=M.na
 have nb:=M.nb
 obtain⟨al,hal,hall,halm⟩:=Jz (show a.size-1<a.size by omega)
 refine wpS_bind (wpS_lift (wpAny_rule ⟨rfl, ?_⟩))
 refine wpS_bind (Zo hal ?_)
 dsimp only
 have m0:MH R a.toList b.toList (#[]:Array Keyed).toList.reverse a.size b.size:=⟨by simp,List.Pairwise.nil,fun x _ y hy=>by simp at hy,fun x _ y hy=>by simp at hy,by simp,by simp⟩
 have m1:MH R a.toList b.toList (#[al]:Array Keyed).toList.reverse (a.size-1) b.size:=M.ha1 m0 na hall fun y hy=>M.lst y (Ztl hy) al hall
 have g0:∃g,st=V1 st g:=⟨gallopOf st,rfl⟩
 by_cases c1:a.size-1=0
 ·rw[if_pos (by simpa using c1)]
  exact wpS_pure (h _ _ (M.hfA m1 (.inl c1) g0))
 rw[if_neg (by simpa using c1)]
 by_cases c2:b.size=1
 ·rw[if_pos (by simpa using c2)]
  exact wpS_pure (h _ _ (MLo.hfB C M m1 c2 g0))
 rw[if_neg (by simpa using c2)]
 refine wpS_bind (wpS_get ?_)
 refine wpS_bind (wpS_mono (wpS_forRange
  (I:=fun x (c:Option (Array Keyed)×Nat×Nat×Array Keyed×Nat) (st':SortSt)=>c.1=none/\JHi R a b st c.2.2.2.1 c.2.1 c.2.2.1 st'/\c.2.1+c.2.2.1+x+1<=a.size+b.size)
  (Q:=fun(c:Option (Array Keyed)×Nat×Nat×Array Keyed×Nat) (st':SortSt)=>∃r,c.1=some r/\UV R a b st r st') ?step ?fin ⟨rfl,⟨m1,by dsimp only;omega,by dsimp only;omega,g0⟩,by dsimp only;omega⟩) ?post)
 case fin =>
  rintro⟨o1,i,j,o,g⟩ st' ⟨h1,⟨h2,h3,h4,h5⟩,h6⟩
  dsimp only at h3 h4 h6
  omega
 case post =>
  rintro⟨o1,i,j,o,g⟩ st' ⟨r,h1,h2⟩
  dsimp only at h1
  subst h1
  exact wpS_pure (h _ _ h2)
 case step =>
  rintro x ⟨o1,i,j,o,g⟩ st1 _ hx ⟨rfl,J,hm⟩
  dsimp only at J hm ⊢
  refine wpS_bind (wpS_mono (wpS_forRange
   (I:=fun x' (c:Option (Array Keyed)×Nat×Nat×Array Keyed×Nat×Nat) (st':SortSt)=>c.1=none/\JHi R a b st c.2.2.2.1 c.2.1 c.2.2.1 st'/\c.2.1+c.2.2.1+x'<=i+j)
   (Q:=fun(c:Option (Array Keyed)×Nat×Nat×Array Keyed×Nat×Nat) (st':SortSt)=>(∃r,c.1=some r/\UV R a b st r st')\/(c.1=none/\JHi R a b st c.2.2.2.1 c.2.1 c.2.2.1 st'/\c.2.1+c.2.2.1+1<=i+j)) ?step1 ?fin1 ⟨rfl,J,ZsN _⟩) ?post1)
  case fin1 =>
   rintro⟨o1,i',j',o',u,v⟩ st' ⟨h1,h2,h3⟩
   dsimp only at h1 h2 h3
   exact .inr ⟨h1,h2,by dsimp only;omega⟩
  case step1 =>
   rintro x' ⟨o1,i',j',o',u,v⟩ st' _ hx' ⟨rfl,⟨m,hi,hj,gs,rfl⟩,hp⟩
   dsimp only at m hi hj hp ⊢
   have lia:=m.hi
   have ljb:=m.hj
   rw[ZsP] at lia ljb
   obtain⟨y,hy,hyl,hym⟩:=Jz (show j'-1<b.size by omega)
   obtain⟨z,hz,hzl,hzm⟩:=Jz (show i'-1<a.size by omega)
   refine wpS_bind (Zo hy (wpS_bind (Zo hz (wpS_bind (Qv C hk (M.ub _ hym) (M.ua _ hzm) (M.ok _ hym _ hzm) ?_)))))
   dsimp only
   cases hR:R y z with
   |true =>
    rw[if_pos rfl]
    refine wpS_bind (Zo hz ?_)
    have m2:=M.ha1 m hi hzl (C.takeLe M.ub M.sb (by omega) hyl (M.ua _ hzm) (C.asy _ _ (M.ub _ hym) (M.ua _ hzm) hR))
    by_cases e1:i'-1=0
    ·rw[if_pos (by simpa using e1)]
     exact wpS_pure (.inl ⟨_,rfl,M.hfA m2 (.inl e1) ⟨gs,rfl⟩⟩)
    ·rw[if_neg (by simpa using e1)]
     have J2:JHi R a b st (o'.push z) (i'-1) j' (V1 st gs):=⟨m2,by omega,hj,gs,rfl⟩
     split
     ·exact wpS_pure (.inr ⟨rfl,J2,by dsimp only;omega⟩)
     ·exact wpS_pure ⟨rfl,J2,by dsimp only;omega⟩
   |false =>
    rw[if_neg (by decide)]
    refine wpS_bind (Zo hy ?_)
    have m2:=M.hb1 m (by omega) hyl (C.takeLe M.ua M.sa hi hzl (M.ub _ hym) hR)
    by_cases e1:j'-1=1
    ·rw[if_pos (by simpa using e1)]
     exact wpS_pure (.inl ⟨_,rfl,MLo.hfB C M m2 e1 ⟨gs,rfl⟩⟩)
    ·rw[if_neg (by simpa using e1)]
     have J2:JHi R a b st (o'.push y) i' (j'-1) (V1 st gs):=⟨m2,hi,by omega,gs,rfl⟩
     split
     ·exact wpS_pure (.inr ⟨rfl,J2,by dsimp only;omega⟩)
     ·exact wpS_pure ⟨rfl,J2,by dsimp only;omega⟩
  case post1 =>
   rintro⟨o1,i',j',o',u,v⟩ st' (⟨r,h1,h2⟩|⟨h1,h2,h3⟩)
   ·dsimp only at h1 h2 ⊢
    subst h1
    exact wpS_pure ⟨r,rfl,h2⟩
   ·dsimp only at h1 h2 h3 ⊢
    subst h1
    refine wpS_bind (wpS_lift (wpAny_rule ⟨rfl, ?_⟩))
    refine wpS_bind (wpS_mono (wpS_forRange
     (I:=fun _ (c:Option (Array Keyed)×Nat×Nat×Array Keyed×Nat×Nat×Nat) (st':SortSt)=>c.1=none/\JHi R a b st c.2.2.2.1 c.2.1 c.2.2.1 st'/\c.2.1+c.2.2.1+(x+1)+1<=a.size+b.size)
     (Q:=fun(c:Option (Array Keyed)×Nat×Nat×Array Keyed×Nat×Nat×Nat) (st':SortSt)=>(∃r,c.1=some r/\UV R a b st r st')\/(c.1=none/\JHi R a b st c.2.2.2.1 c.2.1 c.2.2.1 st'/\c.2.1+c.2.2.1+(x+1)+1<=a.size+b.size)) ?step2 (fun c st' hc=>.inr hc) ⟨rfl,h2,by dsimp only;omega⟩) ?post2)
    case post2 =>
     rintro⟨o1,i',j',o',g',u,v⟩ st' (⟨r,h1,h2⟩|⟨h1,h2,h3⟩)
     ·dsimp only at h1 h2 ⊢
      subst h1
      exact wpS_pure ⟨r,rfl,h2⟩
     ·dsimp only at h1 h2 h3 ⊢
      subst h1
      obtain⟨m,hi,hj,gs,rfl⟩:=h2
      exact wpS_bind (VJ (wpS_pure ⟨rfl,⟨m,hi,hj,_,rfl⟩,by dsimp only;omega⟩))
    case step2 =>
     clear h2 h3 J hm m0 m1
     rintro x' ⟨o1,i,j,o,g,u,v⟩ st' _ hx' ⟨rfl,⟨m,hi,hj,gs,rfl⟩,hp⟩
     dsimp only at m hi hj hp ⊢
     have lia:=m.hi
     have ljb:=m.hj
     rw[ZsP] at lia ljb
     obtain⟨y,hy,hyl,hym⟩:=Jz (show j-1<b.size by omega)
     by_cases hg1:g>1
     ·rw[if_pos hg1]
      refine wpS_bind (VJ ?_)
      refine wpS_bind (Zo hy (wpS_bind (ZL C (show kindOf (V1 _ _)=κ from hk) ((Zhp C M.ua M.sa (M.ub _ hym) (M.ok _ hym) (Zts a.size)).le (show i<=a.size-0 by omega)) (by omega) fun q1 p1 p2 p3=>?_)))
      dsimp only
      have fb2:∀z∈a.toList.take q1,R y z=false:=fun z hz=>by
       obtain⟨t,htk,ht⟩:=U8 hz
       have h1:=p2 t htk
       rw[Zt3,ZN ht] at h1
       simpa using h1
      by_cases hk1:i-q1>0
      ·rw[if_pos hk1]
       have m2:=m.pushA M.sa (c:=q1) (by omega) (fun x hx z hz=>by
        obtain⟨t,htk,ht⟩:=VP hz
        have h1:=p3 t htk.1 htk.2
        rw[Zt3,ZN ht] at h1
        have uz:=M.ua z (ZsK ht)
        exact C.takeLe M.ub M.sb (by omega) hyl uz (C.asy _ _ (M.ub _ hym) uz (by simpa using h1)) x hx)
       rw[<- UM] at m2
       by_cases e0:q1=0
       ·rw[if_pos (by simpa using e0)]
        exact wpS_pure (.inl ⟨_,rfl,M.hfA m2 (.inl e0) ⟨_,rfl⟩⟩)
       rw[if_neg (by simpa using e0)]
       have hi2:0<q1:=by omega
       have fb:=fb2
       refine wpS_bind (Zo hy ?_)
       have m2':=M.hb1 m2 (by omega) hyl fb
       by_cases e2:j-1=1
       ·rw[if_pos (by simpa using e2)]
        exact wpS_pure (.inl ⟨_,rfl,MLo.hfB C M m2' e2 ⟨_,rfl⟩⟩)
       rw[if_neg (by simpa using e2)]
       obtain⟨z,hz,hzl,hzm⟩:=Jz (show q1-1<a.size by omega)
       refine wpS_bind (Zo hz (wpS_bind (ZL C hk ((ZbH C M.ub M.sb (M.ua _ hzm) (fun y hy=>M.ok y hy _ hzm) (Zts b.size)).le (show j-1<=b.size-0 by omega)) (by omega) fun q2 r1 r2 r3=>?_)))
       dsimp only
       have fz2:∀y∈b.toList.take q2,R z y=false:=fun y hy=>by
        obtain⟨t,htk,ht⟩:=U8 hy
        have h1:=r2 t htk
        rw[Zt3,ZN ht] at h1
        exact C.asy _ _ (M.ub _ (ZsK ht)) (M.ua _ hzm) h1
       by_cases hk2:j-1-q2>0
       ·rw[if_pos hk2]
        have m3:=m2'.pushB M.sb (c:=q2) (by omega) (fun x hx y hy=>by
         obtain⟨t,htk,ht⟩:=VP hy
         have h1:=r3 t htk.1 htk.2
         rw[Zt3,ZN ht] at h1
         exact C.takeLe M.ua M.sa hi2 hzl (M.ub _ (ZsK ht)) h1 x hx)
        rw[<- UM] at m3
        by_cases e3:q2=1
        ·rw[if_pos (by simpa using e3)]
         exact wpS_pure (.inl ⟨_,rfl,MLo.hfB C M m3 e3 ⟨_,rfl⟩⟩)
        rw[if_neg (by simpa using e3)]
        by_cases e5:q2=0
        ·rw[if_pos (by simpa using e5)]
         exact wpS_pure (.inl ⟨_,rfl,M.hfA m3 (.inr e5) ⟨_,rfl⟩⟩)
        rw[if_neg (by simpa using e5)]
        have hj3:1<q2:=by omega
        have fz:=fz2
        refine wpS_bind (Zo hz ?_)
        have m4:=M.ha1 m3 hi2 hzl fz
        by_cases e4:q1-1=0
        ·rw[if_pos (by simpa using e4)]
         exact wpS_pure (.inl ⟨_,rfl,M.hfA m4 (.inl e4) ⟨_,rfl⟩⟩)
        ·rw[if_neg (by simpa using e4)]
         split
         ·exact wpS_pure (.inr ⟨rfl,⟨m4,by dsimp only;omega,hj3,_,rfl⟩,by dsimp only;omega⟩)
         ·exact wpS_pure ⟨rfl,⟨m4,by dsimp only;omega,hj3,_,rfl⟩,by dsimp only;omega⟩
       ·rw[if_neg hk2]
        have hq2:q2=j-1:=by omega
        subst hq2
        have m3:=m2'
        have hj3:1<j-1:=by omega
        have fz:=fz2
        refine wpS_bind (Zo hz ?_)
        have m4:=M.ha1 m3 hi2 hzl fz
        by_cases e4:q1-1=0
        ·rw[if_pos (by simpa using e4)]
         exact wpS_pure (.inl ⟨_,rfl,M.hfA m4 (.inl e4) ⟨_,rfl⟩⟩)
        ·rw[if_neg (by simpa using e4)]
         split
         ·exact wpS_pure (.inr ⟨rfl,⟨m4,by dsimp only;omega,hj3,_,rfl⟩,by dsimp only;omega⟩)
         ·exact wpS_pure ⟨rfl,⟨m4,by dsimp only;omega,hj3,_,rfl⟩,by dsimp only;omega⟩
      ·rw[if_neg hk1]
       have hq1:q1=i:=by omega
       subst hq1
       have m2:=m
       have hi2:0<q1:=hi
       have fb:=fb2
       refine wpS_bind (Zo hy ?_)
       have m2':=M.hb1 m2 (by omega) hyl fb
       by_cases e2:j-1=1
       ·rw[if_pos (by simpa using e2)]
        exact wpS_pure (.inl ⟨_,rfl,MLo.hfB C M m2' e2 ⟨_,rfl⟩⟩)
       rw[if_neg (by simpa using e2)]
       obtain⟨z,hz,hzl,hzm⟩:=Jz (show q1-1<a.size by omega)
       refine wpS_bind (Zo hz (wpS_bind (ZL C hk ((ZbH C M.ub M.sb (M.ua _ hzm) (fun y hy=>M.ok y hy _ hzm) (Zts b.size)).le (show j-1<=b.size-0 by omega)) (by omega) fun q2 r1 r2 r3=>?_)))
       dsimp only
       have fz2:∀y∈b.toList.take q2,R z y=false:=fun y hy=>by
        obtain⟨t,htk,ht⟩:=U8 hy
        have h1:=r2 t htk
        rw[Zt3,ZN ht] at h1
        exact C.asy _ _ (M.ub _ (ZsK ht)) (M.ua _ hzm) h1
       by_cases hk2:j-1-q2>0
       ·rw[if_pos hk2]
        have m3:=m2'.pushB M.sb (c:=q2) (by omega) (fun x hx y hy=>by
         obtain⟨t,htk,ht⟩:=VP hy
         have h1:=r3 t htk.1 htk.2
         rw[Zt3,ZN ht] at h1
         exact C.takeLe M.ua M.sa hi2 hzl (M.ub _ (ZsK ht)) h1 x hx)
        rw[<- UM] at m3
        by_cases e3:q2=1
        ·rw[if_pos (by simpa using e3)]
         exact wpS_pure (.inl ⟨_,rfl,MLo.hfB C M m3 e3 ⟨_,rfl⟩⟩)
        rw[if_neg (by simpa using e3)]
        by_cases e5:q2=0
        ·rw[if_pos (by simpa using e5)]
         exact wpS_pure (.inl ⟨_,rfl,M.hfA m3 (.inr e5) ⟨_,rfl⟩⟩)
        rw[if_neg (by simpa using e5)]
        have hj3:1<q2:=by omega
        have fz:=fz2
        refine wpS_bind (Zo hz ?_)
        have m4:=M.ha1 m3 hi2 hzl fz
        by_cases e4:q1-1=0
        ·rw[if_pos (by simpa using e4)]
         exact wpS_pure (.inl ⟨_,rfl,M.hfA m4 (.inl e4) ⟨_,rfl⟩⟩)
        ·rw[if_neg (by simpa using e4)]
         split
         ·exact wpS_pure (.inr ⟨rfl,⟨m4,by dsimp only;omega,hj3,_,rfl⟩,by dsimp only;omega⟩)
         ·exact wpS_pure ⟨rfl,⟨m4,by dsimp only;omega,hj3,_,rfl⟩,by dsimp only;omega⟩
       ·rw[if_neg hk2]
        have hq2:q2=j-1:=by omega
        subst hq2
        have m3:=m2'
        have hj3:1<j-1:=by omega
        have fz:=fz2
        refine wpS_bind (Zo hz ?_)
        have m4:=M.ha1 m3 hi2 hzl fz
        by_cases e4:q1-1=0
        ·rw[if_pos (by simpa using e4)]
         exact wpS_pure (.inl ⟨_,rfl,M.hfA m4 (.inl e4) ⟨_,rfl⟩⟩)
        ·rw[if_neg (by simpa using e4)]
         split
         ·exact wpS_pure (.inr ⟨rfl,⟨m4,by dsimp only;omega,hj3,_,rfl⟩,by dsimp only;omega⟩)
         ·exact wpS_pure ⟨rfl,⟨m4,by dsimp only;omega,hj3,_,rfl⟩,by dsimp only;omega⟩
     ·rw[if_neg hg1]
      refine wpS_bind (VJ ?_)
      refine wpS_bind (Zo hy (wpS_bind (ZL C (show kindOf (V1 _ _)=κ from hk) ((Zhp C M.ua M.sa (M.ub _ hym) (M.ok _ hym) (Zts a.size)).le (show i<=a.size-0 by omega)) (by omega) fun q1 p1 p2 p3=>?_)))
      dsimp only
      have fb2:∀z∈a.toList.take q1,R y z=false:=fun z hz=>by
       obtain⟨t,htk,ht⟩:=U8 hz
       have h1:=p2 t htk
       rw[Zt3,ZN ht] at h1
       simpa using h1
      by_cases hk1:i-q1>0
      ·rw[if_pos hk1]
       have m2:=m.pushA M.sa (c:=q1) (by omega) (fun x hx z hz=>by
        obtain⟨t,htk,ht⟩:=VP hz
        have h1:=p3 t htk.1 htk.2
        rw[Zt3,ZN ht] at h1
        have uz:=M.ua z (ZsK ht)
        exact C.takeLe M.ub M.sb (by omega) hyl uz (C.asy _ _ (M.ub _ hym) uz (by simpa using h1)) x hx)
       rw[<- UM] at m2
       by_cases e0:q1=0
       ·rw[if_pos (by simpa using e0)]
        exact wpS_pure (.inl ⟨_,rfl,M.hfA m2 (.inl e0) ⟨_,rfl⟩⟩)
       rw[if_neg (by simpa using e0)]
       have hi2:0<q1:=by omega
       have fb:=fb2
       refine wpS_bind (Zo hy ?_)
       have m2':=M.hb1 m2 (by omega) hyl fb
       by_cases e2:j-1=1
       ·rw[if_pos (by simpa using e2)]
        exact wpS_pure (.inl ⟨_,rfl,MLo.hfB C M m2' e2 ⟨_,rfl⟩⟩)
       rw[if_neg (by simpa using e2)]
       obtain⟨z,hz,hzl,hzm⟩:=Jz (show q1-1<a.size by omega)
       refine wpS_bind (Zo hz (wpS_bind (ZL C hk ((ZbH C M.ub M.sb (M.ua _ hzm) (fun y hy=>M.ok y hy _ hzm) (Zts b.size)).le (show j-1<=b.size-0 by omega)) (by omega) fun q2 r1 r2 r3=>?_)))
       dsimp only
       have fz2:∀y∈b.toList.take q2,R z y=false:=fun y hy=>by
        obtain⟨t,htk,ht⟩:=U8 hy
        have h1:=r2 t htk
        rw[Zt3,ZN ht] at h1
        exact C.asy _ _ (M.ub _ (ZsK ht)) (M.ua _ hzm) h1
       by_cases hk2:j-1-q2>0
       ·rw[if_pos hk2]
        have m3:=m2'.pushB M.sb (c:=q2) (by omega) (fun x hx y hy=>by
         obtain⟨t,htk,ht⟩:=VP hy
         have h1:=r3 t htk.1 htk.2
         rw[Zt3,ZN ht] at h1
         exact C.takeLe M.ua M.sa hi2 hzl (M.ub _ (ZsK ht)) h1 x hx)
        rw[<- UM] at m3
        by_cases e3:q2=1
        ·rw[if_pos (by simpa using e3)]
         exact wpS_pure (.inl ⟨_,rfl,MLo.hfB C M m3 e3 ⟨_,rfl⟩⟩)
        rw[if_neg (by simpa using e3)]
        by_cases e5:q2=0
        ·rw[if_pos (by simpa using e5)]
         exact wpS_pure (.inl ⟨_,rfl,M.hfA m3 (.inr e5) ⟨_,rfl⟩⟩)
        rw[if_neg (by simpa using e5)]
        have hj3:1<q2:=by omega
        have fz:=fz2
        refine wpS_bind (Zo hz ?_)
        have m4:=M.ha1 m3 hi2 hzl fz
        by_cases e4:q1-1=0
        ·rw[if_pos (by simpa using e4)]
         exact wpS_pure (.inl ⟨_,rfl,M.hfA m4 (.inl e4) ⟨_,rfl⟩⟩)
        ·rw[if_neg (by simpa using e4)]
         split
         ·exact wpS_pure (.inr ⟨rfl,⟨m4,by dsimp only;omega,hj3,_,rfl⟩,by dsimp only;omega⟩)
         ·exact wpS_pure ⟨rfl,⟨m4,by dsimp only;omega,hj3,_,rfl⟩,by dsimp only;omega⟩
       ·rw[if_neg hk2]
        have hq2:q2=j-1:=by omega
        subst hq2
        have m3:=m2'
        have hj3:1<j-1:=by omega
        have fz:=fz2
        refine wpS_bind (Zo hz ?_)
        have m4:=M.ha1 m3 hi2 hzl fz
        by_cases e4:q1-1=0
        ·rw[if_pos (by simpa using e4)]
         exact wpS_pure (.inl ⟨_,rfl,M.hfA m4 (.inl e4) ⟨_,rfl⟩⟩)
        ·rw[if_neg (by simpa using e4)]
         split
         ·exact wpS_pure (.inr ⟨rfl,⟨m4,by dsimp only;omega,hj3,_,rfl⟩,by dsimp only;omega⟩)
         ·exact wpS_pure ⟨rfl,⟨m4,by dsimp only;omega,hj3,_,rfl⟩,by dsimp only;omega⟩
      ·rw[if_neg hk1]
       have hq1:q1=i:=by omega
       subst hq1
       have m2:=m
       have hi2:0<q1:=hi
       have fb:=fb2
       refine wpS_bind (Zo hy ?_)
       have m2':=M.hb1 m2 (by omega) hyl fb
       by_cases e2:j-1=1
       ·rw[if_pos (by simpa using e2)]
        exact wpS_pure (.inl ⟨_,rfl,MLo.hfB C M m2' e2 ⟨_,rfl⟩⟩)
       rw[if_neg (by simpa using e2)]
       obtain⟨z,hz,hzl,hzm⟩:=Jz (show q1-1<a.size by omega)
       refine wpS_bind (Zo hz (wpS_bind (ZL C hk ((ZbH C M.ub M.sb (M.ua _ hzm) (fun y hy=>M.ok y hy _ hzm) (Zts b.size)).le (show j-1<=b.size-0 by omega)) (by omega) fun q2 r1 r2 r3=>?_)))
       dsimp only
       have fz2:∀y∈b.toList.take q2,R z y=false:=fun y hy=>by
        obtain⟨t,htk,ht⟩:=U8 hy
        have h1:=r2 t htk
        rw[Zt3,ZN ht] at h1
        exact C.asy _ _ (M.ub _ (ZsK ht)) (M.ua _ hzm) h1
       by_cases hk2:j-1-q2>0
       ·rw[if_pos hk2]
        have m3:=m2'.pushB M.sb (c:=q2) (by omega) (fun x hx y hy=>by
         obtain⟨t,htk,ht⟩:=VP hy
         have h1:=r3 t htk.1 htk.2
         rw[Zt3,ZN ht] at h1
         exact C.takeLe M.ua M.sa hi2 hzl (M.ub _ (ZsK ht)) h1 x hx)
        rw[<- UM] at m3
        by_cases e3:q2=1
        ·rw[if_pos (by simpa using e3)]
         exact wpS_pure (.inl ⟨_,rfl,MLo.hfB C M m3 e3 ⟨_,rfl⟩⟩)
        rw[if_neg (by simpa using e3)]
        by_cases e5:q2=0
        ·rw[if_pos (by simpa using e5)]
         exact wpS_pure (.inl ⟨_,rfl,M.hfA m3 (.inr e5) ⟨_,rfl⟩⟩)
        rw[if_neg (by simpa using e5)]
        have hj3:1<q2:=by omega
        have fz:=fz2
        refine wpS_bind (Zo hz ?_)
        have m4:=M.ha1 m3 hi2 hzl fz
        by_cases e4:q1-1=0
        ·rw[if_pos (by simpa using e4)]
         exact wpS_pure (.inl ⟨_,rfl,M.hfA m4 (.inl e4) ⟨_,rfl⟩⟩)
        ·rw[if_neg (by simpa using e4)]
         split
         ·exact wpS_pure (.inr ⟨rfl,⟨m4,by dsimp only;omega,hj3,_,rfl⟩,by dsimp only;omega⟩)
         ·exact wpS_pure ⟨rfl,⟨m4,by dsimp only;omega,hj3,_,rfl⟩,by dsimp only;omega⟩
       ·rw[if_neg hk2]
        have hq2:q2=j-1:=by omega
        subst hq2
        have m3:=m2'
        have hj3:1<j-1:=by omega
        have fz:=fz2
        refine wpS_bind (Zo hz ?_)
        have m4:=M.ha1 m3 hi2 hzl fz
        by_cases e4:q1-1=0
        ·rw[if_pos (by simpa using e4)]
         exact wpS_pure (.inl ⟨_,rfl,M.hfA m4 (.inl e4) ⟨_,rfl⟩⟩)
        ·rw[if_neg (by simpa using e4)]
         split
         ·exact wpS_pure (.inr ⟨rfl,⟨m4,by dsimp only;omega,hj3,_,rfl⟩,by dsimp only;omega⟩)
         ·exact wpS_pure ⟨rfl,⟨m4,by dsimp only;omega,hj3,_,rfl⟩,by dsimp only;omega⟩
end
theorem ZcK(i:Nat):mergeAt' i=(do
  let s <- get
  let (some (c,n,p),some (d,m,_)):=((pendingOf s)[i]?,(pendingOf s)[i+1]?)|unsupported "internal:list.sort.pending"
  set (setPending s (((pendingOf s).setIfInBounds i (c,n+m,p)).eraseIdxIfInBounds (i+1)))
  let some k <- VF false (<- elem' (arrOf s) d) (arrOf s) c n 0|return false
  let (c,n):=(c+k,n-k)
  if n==0 then return true
  let some m <- VF true (<- elem' (arrOf s) (c+n-1)) (arrOf s) d m (m-1)|return false
  if m==0 then return true
  let x:=(arrOf s).extract c d
  let y:=(arrOf s).extract d (d+m)
  let r <- if n<=m then ZaR x y else ZaS x y
  modify fun s=>setArr s (r.toList.zipIdx.foldl (fun a (p,j)=>a.setIfInBounds (c+j) p) (arrOf s))
  return (failedOf (<- get)).isNone):=rfl
section
variable {prog:Program}{w:World}{A:Around}{E:Value->Shared->Prop}{s:Shared}{κ:SortKind}{U:Keyed->Prop}{R:Keyed->Keyed->Bool}{Ok:Keyed->Keyed->Prop}
theorem Zdm:∀(r:List Keyed) (c:Nat) (X:Array Keyed) (n:Nat),c+n+r.length<=X.size->((r.zipIdx n).foldl (fun a (p:Keyed×Nat)=>a.setIfInBounds (c+p.2) p.1) X).toList=X.toList.take (c+n)++r++X.toList.drop (c+n+r.length)
 |[],c,X,n,h=>by simp
 |x::r,c,X,n,h=>by
  simp only[Ztq] at h
  rw[List.zipIdx_cons,Zvd]
  have ih:=Zdm r c (X.setIfInBounds (c+n) x) (n+1) (by rw[Array.size_setIfInBounds];omega)
  rw[ih,ZuP]
  have hl:c+n<X.toList.length:=by rw[ZsP];omega
  rw[show c+(n+1)=c+n+1 by omega]
  have e1:(X.toList.set (c+n) x).take (c+n+1)=X.toList.take (c+n)++[x]:=by
   rw[List.take_set,List.take_succ_eq_append_getElem hl,ZuC _ _ (by rw[ZsY];omega)]
   rw[show c+n-(X.toList.take (c+n)).length=0 by rw[ZsY,ZsP];omega]
   rfl
  have e2:(X.toList.set (c+n) x).drop (c+n+1+r.length)=X.toList.drop (c+n+1+r.length):=List.drop_set_of_lt (by omega)
  rw[e1,e2]
  simp only[Ztq,ZsS,ZtU,Zuf,ZtP]
  rw[show c+n+(r.length+1)=c+n+1+r.length by omega]
theorem Zfv(C:V0 prog w A s κ U R Ok)(left:Bool){X:Array Keyed}{key:Keyed}{c n:Nat}{P:List Keyed}(hP:∀t,t<n->X[c+t]?=P[t]?)(hn:P.length=n)(ul:∀y∈P,U y)(hs:Srt R P)(uk:U key)(okk:∀y∈P,if left=true then Ok y key else Ok key y) :
  Qa U R Ok left key X c n (fun t=>if left=true then R (P.getD t (.none,.none)) key else !R key (P.getD t (.none,.none))):=by
 have get:∀t,t<n->P[t]?=some (P.getD t (.none,.none)):=fun t ht=>by
  rw[ZsG,ZsH (by omega)];rfl
 refine⟨uk,fun t ht=>⟨_,by rw[hP t ht,get t ht],ul _ (ZsK (get t ht)),okk _ (ZsK (get t ht)),rfl⟩,fun t u htu hu h=>?_⟩
 have hu':=get u hu
 have ht':=get t (by omega)
 have h2:=Srt.le C ul hs htu ht' hu'
 have u1:=ul _ (ZsK ht')
 have u2:=ul _ (ZsK hu')
 cases left with
 |false =>
  have h:(!R key (P.getD u (.none,.none)))=true:=h
  show (!R key (P.getD t (.none,.none)))=true
  rw[C.tr _ _ key u1 u2 uk h2 (by simpa using h)];rfl
 |true =>
  have h:R (P.getD u (.none,.none)) key=true:=h
  show R (P.getD t (.none,.none)) key=true
  cases hc:R (P.getD t (.none,.none)) key with
  |true=>rfl
  |false=>rw[C.tr key _ _ uk u1 u2 hc h2] at h;cases h
theorem Zjj{σ:Type}{M:Model}{v:σ}{Q:PUnit->σ->Prop}{st:σ}(h:Q ⟨⟩ v):wpS M A E s (set v:StateT σ Sem PUnit) Q st:=by
 unfold wpS;rw[StateT.run_set];exact wpAny_pure ⟨rfl,h⟩
theorem Zc0(C:V0 prog w A s κ U R Ok){st:SortSt}{i c n p d m p2:Nat}{pre P Y post:List Keyed}{Q:Bool->SortSt->Prop}(hk:kindOf st=κ)(hf:failedOf st=none)(h1:(pendingOf st)[i]?=some (c,n,p))(h2:(pendingOf st)[i+1]?=some (d,m,p2))(hX:(arrOf st).toList=pre++(P++(Y++post)))(lp:pre.length=c)(lP:P.length=n)(lY:Y.length=m)(hd:d=c+n)(n0:0<n)(m0:0<m)(uP:∀x∈P,U x)(uY:∀x∈Y,U x)(sP:Srt R P)(sY:Srt R Y)(oPY:∀y∈Y,∀x∈P,Ok y x)(h:∀st' W,kindOf st'=κ->failedOf st'=none->pendingOf st'=((pendingOf st).setIfInBounds i (c,n+m,p)).eraseIdxIfInBounds (i+1)->(arrOf st').toList=pre++(W++post)->Srt R W->W.Perm (P++Y)->Q true st') :
  wpS (model prog w) A E s (mergeAt' i) Q st:=by
 rw[ZcK]
 refine wpS_bind (wpS_get ?_)
 rw[h1,h2]
 dsimp only
 have size0:(arrOf st).size=c+(n+(m+post.length)):=by
  have:=congrArg List.length hX
  rw[ZsP] at this
  rw[this];simp[lp,lP,lY]
 have gP:∀t,t<n->(arrOf st)[c+t]?=P[t]?:=fun t ht=>by
  rw[<- Ztc,hX,ZsU (by omega),lp,show c+t-c=t by omega,ZsX (by omega)]
 have gY:∀t,t<m->(arrOf st)[d+t]?=Y[t]?:=fun t ht=>by
  rw[<- Ztc,hX,ZsU (by omega),lp,ZsU (by omega),lP,show d+t-c-n=t by omega,ZsX (by omega)]
 refine wpS_bind (Zjj ?_)
 have y0l:Y[0]?=some (Y.getD 0 (.none,.none)):=by rw[ZsG,ZsH (by omega)];rfl
 generalize Y.getD 0 (.none,.none)=y0 at y0l
 have uy0:=uY y0 (ZsK y0l)
 refine wpS_bind (Zo (x:=y0) (by have:=gY 0 m0;rw[Zve] at this;rw[this,y0l]) (wpS_bind (ZL C (show kindOf (setPending st _)=κ from hk) (Zfv C false gP lP uP sP uy0 (fun x hx=>by rw[if_neg (by decide)];exact oPY _ (ZsK y0l) x hx)) n0 fun k p1 p2 p3=>?_)))
 dsimp only at p2 p3 ⊢
 have gd:∀{l:List Keyed}{t:Nat}{x:Keyed},l[t]?=some x->l.getD t (.none,.none)=x:=fun {l t x} h=>by rw[ZsG,h];rfl
 have pk:∀x∈P.take k,R y0 x=false:=fun x hx=>by
  obtain⟨t,ht,hx⟩:=U8 hx
  have:=p2 t ht
  rw[gd hx] at this
  simpa using this
 have pk2:∀t x,k<=t->P[t]?=some x->R y0 x=true:=fun t x ht hx=>by
  have hl:=(ZsJ.mp hx).1
  have:=p3 t ht (by omega)
  rw[gd hx] at this
  simpa using this
 by_cases e1:n-k=0
 ·rw[if_pos (by simpa using e1)]
  refine wpS_pure (h _ (P++Y) hk hf rfl (by rw[hX,ZsS]) (ZsZ.mpr ⟨sP,sY,fun x hx y hy=>?_⟩) (List.Perm.refl _))
  have:=C.dropLe uY sY y0l (uP x hx) (pk x (by rw[Ztn (by omega)];exact hx))
  rw[Zuh] at this
  exact this y hy
 rw[if_neg (by simpa using e1)]
 have ll:P[n-1]?=some (P.getD (n-1) (.none,.none)):=by rw[ZsG,ZsH (by omega)];rfl
 generalize P.getD (n-1) (.none,.none)=l at ll
 have ul:=uP l (ZsK ll)
 refine wpS_bind (Zo (x:=l) (by have:=gP (n-1) (by omega);rw[show c+k+(n-k)-1=c+(n-1) by omega,this,ll]) (wpS_bind (ZL C (show kindOf (setPending st _)=κ from hk) (Zfv C true gY lY uY sY ul (fun x hx=>by rw[if_pos rfl];exact oPY x hx _ (ZsK ll))) (by omega) fun k2 r1 r2 r3=>?_)))
 dsimp only at r2 r3 ⊢
 have yk:∀x∈Y.take k2,R x l=true:=fun x hx=>by
  obtain⟨t,ht,hx⟩:=U8 hx
  have:=r2 t ht
  rw[gd hx] at this
  simpa using this
 have yk2:∀x∈Y.drop k2,R x l=false:=fun x hx=>by
  obtain⟨t,hx⟩:=J7 hx
  have hl:=(ZsJ.mp hx).1
  have:=r3 (k2+t) (by omega) (by omega)
  rw[gd hx] at this
  simpa using this
 have pl:∀v,U v->R v l=false->∀x∈P,R v x=false:=fun v uv hv x hx=>C.takeLe uP sP n0 ll uv hv x (by rw[Ztn (by omega)];exact hx)
 by_cases e2:k2=0
 ·rw[if_pos (by simpa using e2)]
  subst e2
  rw[Zuh] at yk2
  exact wpS_pure (h _ (P++Y) hk hf rfl (by rw[hX,ZsS]) (ZsZ.mpr ⟨sP,sY,fun x hx y hy=>pl y (uY y hy) (yk2 y hy) x hx⟩) (List.Perm.refl _))
 rw[if_neg (by simpa using e2)]
 have ex:((arrOf st).extract (c+k) d).toList=P.drop k:=by
  refine Zt9 fun t=>?_
  rw[ZtX,Zt2,Zto,Ztp,Ztp,Ztc]
  by_cases ht:t<d-(c+k)
  ·rw[if_pos ht,show c+k+t=c+(k+t) by omega,gP (k+t) (by omega)]
  ·rw[if_neg ht,Zti (by omega)]
 have ey:((arrOf st).extract d (d+k2)).toList=Y.take k2:=by
  refine Zt9 fun t=>?_
  rw[ZtX,Zt2,Zto,Ztp,Zto,Ztc]
  by_cases ht:t<k2
  ·rw[if_pos (by omega),if_pos ht,gY t (by omega)]
  ·rw[if_neg (by omega),if_neg ht]
 have sx:((arrOf st).extract (c+k) d).size=n-k:=by
  have:=congrArg List.length ex
  rw[ZsP,ZtK] at this
  omega
 have sy:((arrOf st).extract d (d+k2)).size=k2:=by
  have:=congrArg List.length ey
  rw[ZsP,ZsY] at this
  omega
 have MM:MLo U R Ok ((arrOf st).extract (c+k) d) ((arrOf st).extract d (d+k2)):=by
  refine⟨?_, ?_, ?_, ?_, ?_,by omega,by omega,fun x y hx hy=>?_,fun x hx y hy=>?_⟩
  ·rw[ex];exact fun x hx=>uP x (Zt0 hx)
  ·rw[ey];exact fun x hx=>uY x (Ztl hx)
  ·rw[ex,ey];exact fun x hx y hy=>oPY x (Ztl hx) y (Zt0 hy)
  ·rw[ex];exact sP.drop k
  ·rw[ey];exact sY.take k2
  ·rw[ey,Zto,if_pos (by omega),y0l] at hx
   cases hx
   rw[ex,Ztp,Zve] at hy
   exact C.asy _ _ uy0 (uP y (ZsK hy)) (pk2 k y (ZsN _) hy)
  ·rw[ey] at hx
   rw[ex,Ztp,sx,show k+(n-k-1)=n-1 by omega,ll] at hy
   cases hy
   exact C.asy _ _ (uY x (Ztl hx)) ul (yk x hx)
 have fin:∀r st2,UV R ((arrOf st).extract (c+k) d) ((arrOf st).extract d (d+k2)) (setPending st (((pendingOf st).setIfInBounds i (c,n+m,p)).eraseIdxIfInBounds (i+1))) r st2 ->
   wpS (model prog w) A E s (do
    modify fun s=>setArr s (r.toList.zipIdx.foldl (fun a (p,j)=>a.setIfInBounds (c+k+j) p) (arrOf s))
    return (failedOf (<- get)).isNone) Q st2:=by
  rintro r st2 ⟨q1,q2,g,rfl⟩
  rw[ex,ey] at q2
  have lr:r.toList.length=n-k+k2:=by
   rw[q2.length_eq,Ztw,ZtK,ZsY];omega
  refine wpS_bind (wpS_modify (wpS_bind (wpS_get (wpS_pure ?_))))
  show Q ((failedOf st).isNone) _
  rw[hf]
  have hw:=Zdm r.toList (c+k) (arrOf st) 0 (by omega)
  have memr:∀x∈r.toList,(x∈P.drop k\/x∈Y.take k2):=fun x hx=>ZsO.mp (q2.mem_iff.mp hx)
  refine h _ (P.take k++(r.toList++Y.drop k2)) hk hf rfl ?_ ?_ ?_
  ·show (r.toList.zipIdx.foldl (fun a (p:Keyed×Nat)=>a.setIfInBounds (c+k+p.2) p.1) (arrOf st)).toList=_
   rw[hw,Zve,hX,lr]
   have d1:(pre++(P++(Y++post))).take (c+k)=pre++P.take k:=by
    rw[List.take_append,Ztn (by omega),lp,show c+k-c=k by omega,List.take_append_of_le_length (by omega)]
   have d2:(pre++(P++(Y++post))).drop (c+k+(n-k+k2))=Y.drop k2++post:=by
    rw[List.drop_append,ZtC (by omega),ZtP,lp,List.drop_append,ZtC (by omega),ZtP,lP,List.drop_append_of_le_length (by omega)]
    congr 2
    omega
   rw[d1,d2]
   simp only[ZsS]
  ·refine ZsZ.mpr ⟨sP.take k,ZsZ.mpr ⟨q1,sY.drop k2,fun x hx y hy=>?_⟩,fun x hx y hy=>?_⟩
   ·rcases memr x hx with z|z
    ·exact pl y (uY y (Zt0 hy)) (yk2 y hy) x (Zt0 z)
    ·have sd:=sY
     rw[<- Ztg k2 Y] at sd
     exact(ZsZ.mp sd).2.2 x z y hy
   ·have ux:=uP x (Ztl hx)
    have hyY:∀y∈Y,R y x=false:=fun y hy=>by
     have:=C.dropLe uY sY y0l ux (pk x hx)
     rw[Zuh] at this
     exact this y hy
    rcases ZsO.mp hy with z|z
    ·rcases memr y z with z|z
     ·have sd:=sP
      rw[<- Ztg k P] at sd
      exact(ZsZ.mp sd).2.2 x hx y z
     ·exact hyY y (Ztl z)
    ·exact hyY y (Zt0 z)
  ·have p1:(P.take k++(r.toList++Y.drop k2)).Perm (P.take k++((P.drop k++Y.take k2)++Y.drop k2)):=List.Perm.append_left _ (q2.append_right _)
   refine p1.trans ?_
   rw[ZsS,Ztg,<- ZsS,Ztg]
 by_cases e3:n-k<=k2
 ·rw[if_pos e3]
  exact wpS_bind (Zcy C (show kindOf (setPending st _)=κ from hk) MM fin)
 ·rw[if_neg e3]
  exact wpS_bind (Zcz C (show kindOf (setPending st _)=κ from hk) MM fin)
end
noncomputable def gA(X:Array Keyed)(i:Nat):Keyed:=X.getD i (.none,.none)
theorem Uc{X:Array Keyed}{i:Nat}(h:i<X.size):X[i]?=some (gA X i):=by simp[gA,Array.getD,h]
theorem Ze9{X:Array Keyed}{i:Nat}{x:Keyed}(h:X[i]?=some x):gA X i=x:=by
 have hi:i<X.size:=by
  rcases Nat.lt_or_ge i X.size with z|z
  ·exact z
  ·rw[Zui z] at h;cases h
 rw[Uc hi] at h;exact Option.some.inj h
theorem JY{X Y:Array Keyed}{i j:Nat}(h:X[i]?=Y[j]?):gA X i=gA Y j:=by
 simp only[gA,Array.getD_eq_getD_getElem?,h]
def Up(R:Keyed->Keyed->Bool)(X:Array Keyed)(lo m:Nat):Prop:=∀i j,i<j->j<m->R (gA X (lo+j)) (gA X (lo+i))=false
def Dn'(R:Keyed->Keyed->Bool)(X:Array Keyed)(lo m:Nat):Prop:=∀i j,i<j->j<m->R (gA X (lo+i)) (gA X (lo+j))=false
structure Vf(X Y:Array Keyed)(lo m:Nat):Prop where
 perm:Y.Perm X
 out:∀k,k<lo\/lo+m<=k->Y[k]?=X[k]?
theorem Vf.refl(X:Array Keyed)(lo m:Nat):Vf X X lo m:=⟨Array.Perm.refl _,fun _ _=>rfl⟩
theorem Vf.size{X Y:Array Keyed}{lo m:Nat}(h:Vf X Y lo m):Y.size=X.size:=h.perm.size_eq
theorem Vf.trans{X Y Z:Array Keyed}{lo m:Nat}(h:Vf X Y lo m)(g:Vf Y Z lo m):Vf X Z lo m:=⟨g.perm.trans h.perm,fun k hk=>(g.out k hk).trans (h.out k hk)⟩
theorem Vf.wide{X Y:Array Keyed}{lo lo' m m':Nat}(h:Vf X Y lo' m')(h1:lo<=lo')(h2:lo'+m'<=lo+m):Vf X Y lo m:=⟨h.perm,fun k hk=>h.out k (by omega)⟩
theorem Vf.back{X Y:Array Keyed}{lo m q:Nat}(h:Vf X Y lo m)(h1:lo<=q)(h2:q<lo+m)(hq:q<Y.size):∃q',lo<=q'/\q'<lo+m/\q'<X.size/\gA Y q=gA X q':=by
 have hs:=h.size
 have eX:X.toList=X.toList.take lo++((X.toList.drop lo).take m++(X.toList.drop lo).drop m):=by rw[Ztg,Ztg]
 have eY:Y.toList=Y.toList.take lo++((Y.toList.drop lo).take m++(Y.toList.drop lo).drop m):=by rw[Ztg,Ztg]
 have t1:Y.toList.take lo=X.toList.take lo:=by
  refine Zt9 fun i=>?_
  rw[Zto,Zto]
  split
  ·rw[Ztc,Ztc];exact h.out i (.inl (by omega))
  ·rfl
 have t2:(Y.toList.drop lo).drop m=(X.toList.drop lo).drop m:=by
  refine Zt9 fun i=>?_
  rw[List.drop_drop,List.drop_drop,Ztp,Ztp,Ztc,Ztc]
  exact h.out _ (.inr (by omega))
 have p:Y.toList.Perm X.toList:=h.perm.toList
 rw[eX,eY,t1,t2,List.perm_append_left_iff,List.perm_append_right_iff] at p
 have hm:gA Y q∈(Y.toList.drop lo).take m:=by
  refine ZsK (i:=q-lo) ?_
  rw[Zto,if_pos (by omega),Ztp,show lo+(q-lo)=q by omega,Ztc]
  exact Uc hq
 obtain⟨t,ht⟩:=Ztj (p.mem_iff.mp hm)
 rw[Zto] at ht
 split at ht
 ·rename_i c
  rw[Ztp,Ztc] at ht
  have hl:lo+t<X.size:=by
   rcases Nat.lt_or_ge (lo+t) X.size with z|z
   ·exact z
   ·rw[Zui z] at ht;cases ht
  exact⟨lo+t,by omega,by omega,hl,(Ze9 ht).symm⟩
 ·cases ht
def Sep(Ok:Keyed->Keyed->Prop)(X:Array Keyed)(e:Nat):Prop:=∀p q,p<e->e<=q->q<X.size->Ok (gA X q) (gA X p)
theorem Vf.place{X Y:Array Keyed}{lo m q:Nat}(h:Vf X Y lo m)(hq:q<Y.size):∃q',q'<X.size/\gA Y q=gA X q'/\∀e,e<=lo\/lo+m<=e->(e<=q ↔ e<=q'):=by
 by_cases c:lo<=q/\q<lo+m
 ·obtain⟨q',a,b,d,e⟩:=h.back c.1 c.2 hq
  exact⟨q',d,e,fun e he=>by omega⟩
 ·exact⟨q,by rw[<- h.size];exact hq,JY (h.out q (by omega)),fun _ _=>Iff.rfl⟩
theorem Vf.sep{Ok:Keyed->Keyed->Prop}{X Y:Array Keyed}{lo m e:Nat}(h:Vf X Y lo m)(he:e<=lo\/lo+m<=e)(hX:Sep Ok X e):Sep Ok Y e:=fun p q hp hq hs=>by
 obtain⟨q',a1,a2,a3⟩:=h.place hs
 obtain⟨p',b1,b2,b3⟩:=h.place (q:=p) (by omega)
 rw[a2,b2]
 have:=b3 e he
 exact hX p' q' (by omega) ((a3 e he).mp hq) a1
section
variable {prog:Program}{w:World}{A:Around}{E:Value->Shared->Prop}{s:Shared}{κ:SortKind}{U:Keyed->Prop}{R:Keyed->Keyed->Bool}{Ok:Keyed->Keyed->Prop}
def Zdl(U:Keyed->Prop)(X:Array Keyed):Prop:=∀i,i<X.size->U (gA X i)
theorem Zdl.stir{X Y:Array Keyed}{lo m:Nat}(h:Zdl U X)(t:Vf X Y lo m):Zdl U Y:=fun i hi=>by
 have hm:gA Y i∈Y:=by
  have:=Uc hi
  exact Array.mem_of_getElem? this
 obtain⟨j,hj⟩:=Array.getElem?_of_mem ((Array.Perm.mem_iff t.perm).mp hm)
 have hjs:j<X.size:=by
  rcases Nat.lt_or_ge j X.size with z|z
  ·exact z
  ·rw[Zui z] at hj;cases hj
 rw[<- Ze9 hj]
 exact h j hjs
theorem UK(C:V0 prog w A s κ U R Ok){st:SortSt}{i j:Nat}{Q:Option Bool->SortSt->Prop}(hk:kindOf st=κ)(hU:Zdl U (arrOf st))(hi:i<(arrOf st).size)(hj:j<(arrOf st).size)(ok:Ok (gA (arrOf st) i) (gA (arrOf st) j))(h:Q (some (R (gA (arrOf st) i) (gA (arrOf st) j))) st) :
  wpS (model prog w) A E s (ltAt' i j) Q st:=by
 rw[ltAt'_eq]
 refine wpS_bind (wpS_get ?_)
 exact wpS_bind (Zo (Uc hi) (wpS_bind (Zo (Uc hj) (Qv C hk (hU i hi) (hU j hj) ok h))))
theorem Up.more(C:V0 prog w A s κ U R Ok){X:Array Keyed}{lo n:Nat}(hU:Zdl U X)(hs:lo+n<X.size)(h:Up R X lo n)(hl:n=0\/R (gA X (lo+n)) (gA X (lo+n-1))=false):Up R X lo (n+1):=fun i j hij hj=>by
 by_cases e:j<n
 ·exact h i j hij e
 ·obtain rfl:j=n:=by omega
  rcases hl with hl|hl
  ·omega
  ·by_cases e2:i=j-1
   ·subst e2;rw[show lo+(j-1)=lo+j-1 by omega];exact hl
   ·have h2:=h i (j-1) (by omega) (by omega)
    rw[show lo+(j-1)=lo+j-1 by omega] at h2
    exact C.tr _ _ _ (hU _ (by omega)) (hU _ (by omega)) (hU _ (by omega)) h2 hl
theorem Zjk(C:V0 prog w A s κ U R Ok){st:SortSt}{lo n ok:Nat}{Q:Bool->SortSt->Prop}(hk:kindOf st=κ)(hU:Zdl U (arrOf st))(hn:lo+n<=(arrOf st).size)(hok:ok<=n)(n1:1<=n)(hs:Up R (arrOf st) lo ok)(hO:∀e,lo+ok<=e->Sep Ok (arrOf st) e)(h:∀Y,Vf (arrOf st) Y lo n->Up R Y lo n->Q true (setArr st Y)):wpS (model prog w) A E s (binarySort' lo n ok) Q st:=by
 rw[binarySort'_eq]
 refine wpS_bind (wpS_mono (wpS_forRange
  (I:=fun k (c:Option Bool×Unit) (st':SortSt)=>c.1=none/\∃Y,st'=setArr st Y/\Vf (arrOf st) Y lo k/\Up R Y lo k)
  (Q:=fun(c:Option Bool×Unit) (st':SortSt)=>c.1=none/\∃Y,st'=setArr st Y/\Vf (arrOf st) Y lo n/\Up R Y lo n) ?step ?fin ?ini) ?post)
 case ini =>
  refine⟨rfl,arrOf st,rfl,Vf.refl _ _ _,fun i j hij hj=>?_⟩
  by_cases e:1<=ok
  ·exact hs i j hij (by omega)
  ·omega
 case fin =>
  rintro⟨o,u⟩ st' ⟨h1,Y,h2,h3,h4⟩
  exact⟨h1,Y,h2,h3.wide (ZsN _) (by omega),fun i j hij hj=>h4 i j hij (by omega)⟩
 case post =>
  rintro⟨o,u⟩ st' ⟨h1,Y,rfl,h3,h4⟩
  dsimp only at h1
  subst h1
  exact wpS_pure (h Y h3 h4)
 case step =>
  rintro k ⟨o,u⟩ st' hk1 hk2 ⟨h1,Y,rfl,h3,h4⟩
  dsimp only at h1
  subst h1
  have hYU:=hU.stir h3
  have hYs:=h3.size
  refine wpS_bind (wpS_mono (wpS_forRange
   (I:=fun x (c:Option Bool×Nat×Nat) (st':SortSt)=>c.1=none/\st'=setArr st Y/\c.2.1<=c.2.2/\c.2.2<=k/\(∀i,i<c.2.1->R (gA Y (lo+k)) (gA Y (lo+i))=false)/\(∀i,c.2.2<=i->i<k->R (gA Y (lo+k)) (gA Y (lo+i))=true)/\c.2.2-c.2.1<=k-x)
   (Q:=fun(c:Option Bool×Nat×Nat) (st':SortSt)=>c.1=none/\st'=setArr st Y/\c.2.1=c.2.2/\c.2.2<=k/\(∀i,i<c.2.1->R (gA Y (lo+k)) (gA Y (lo+i))=false)/\(∀i,c.2.2<=i->i<k->R (gA Y (lo+k)) (gA Y (lo+i))=true)) ?step1 ?fin1
   ⟨rfl,rfl,Zts _,ZsN _,fun i hi=>absurd hi (Nat.not_lt_zero _),fun i h1 h2=>absurd h1 (by dsimp only;omega),by dsimp only;omega⟩) ?post1)
  case fin1 =>
   rintro⟨o,l,r⟩ st' ⟨rfl,q0,q1,q2,q3,q4,q5⟩
   dsimp only at q1 q2 q3 q4 q5 ⊢
   exact⟨rfl,q0,by omega,q2,q3,q4⟩
  case step1 =>
   rintro x ⟨o,l,r⟩ st' _ hx ⟨rfl,rfl,q1,q2,q3,q4,q5⟩
   dsimp only at q1 q2 q3 q4 q5 ⊢
   by_cases hlr:l ≥ r
   ·rw[if_pos hlr]
    exact wpS_pure ⟨rfl,rfl,by dsimp only;omega,q2,q3,q4⟩
   ·rw[if_neg hlr]
    refine wpS_bind (UK C (show kindOf (setArr st Y)=κ from hk) hYU (show lo+k<Y.size by omega) (show lo+(l+r)/2<Y.size by omega) (h3.sep (.inr (ZsN _)) (hO (lo+k) (by omega)) _ _ (by omega) (ZsN _) (by omega)) ?_)
    dsimp only
    show wpS _ _ _ _ (if R (gA Y (lo+k)) (gA Y (lo+(l+r)/2))=true then _ else _) _ _
    cases hm:R (gA Y (lo+k)) (gA Y (lo+(l+r)/2)) with
    |true =>
     rw[if_pos rfl]
     refine wpS_pure ⟨rfl,rfl,by dsimp only;omega,by dsimp only;omega,q3,fun i i1 i2=>?_,by dsimp only;omega⟩
     dsimp only at i1
     by_cases e:i=(l+r)/2
     ·subst e;exact hm
     ·cases hc:R (gA Y (lo+k)) (gA Y (lo+i)) with
      |true=>rfl
      |false =>
       have:=h4 ((l+r)/2) i (by omega) i2
       rw[C.tr _ _ _ (hYU _ (by omega)) (hYU _ (by omega)) (hYU _ (by omega)) this hc] at hm
       cases hm
    |false =>
     rw[if_neg (by decide)]
     refine wpS_pure ⟨rfl,rfl,by dsimp only;omega,q2,fun i i1=>?_,q4,by dsimp only;omega⟩
     dsimp only at i1
     by_cases e:i=(l+r)/2
     ·subst e;exact hm
     ·have:=h4 i ((l+r)/2) (by omega) (by omega)
      exact C.tr _ _ _ (hYU _ (by omega)) (hYU _ (by omega)) (hYU _ (by omega)) this hm
  case post1 =>
   rintro⟨o,l,r⟩ st' ⟨rfl,rfl,q1,q2,q3,q4⟩
   dsimp only at q1 q2 q3 q4 ⊢
   subst q1
   rw[moveDown'_eq]
   refine wpS_bind (wpS_modify (wpS_pure ⟨rfl,bubble Y (lo+k) (lo+k-(lo+l)),rfl, ?_, ?_⟩))
   ·refine(h3.wide (ZsN _) (by omega)).trans ⟨bubble_perm _ _ _,fun t ht=>?_⟩
    rw[getElem?_bubble (show lo+k<Y.size by omega) _ (by omega),if_neg (by omega),if_neg (by omega)]
   ·have bg:∀t,t<=k->gA (bubble Y (lo+k) (lo+k-(lo+l))) (lo+t)=if t=l then gA Y (lo+k) else if l<t then gA Y (lo+t-1) else gA Y (lo+t):=fun t ht=>by
     have e:=getElem?_bubble (show lo+k<Y.size by omega) (lo+k-(lo+l)) (by omega) (lo+t)
     by_cases e1:t=l
     ·rw[if_pos e1];rw[if_pos (by omega)] at e;exact JY e
     ·rw[if_neg e1];rw[if_neg (by omega)] at e
      by_cases e2:l<t
      ·rw[if_pos e2];rw[if_pos (by omega)] at e;exact JY e
      ·rw[if_neg e2];rw[if_neg (by omega)] at e;exact JY e
    intro i j hij hj
    rw[bg i (by omega),bg j (by omega)]
    by_cases a1:j=l
    ·rw[if_pos a1,if_neg (by omega),if_neg (by omega)]
     exact q3 i (by omega)
    ·rw[if_neg a1]
     by_cases a2:l<j
     ·rw[if_pos a2]
      by_cases b1:i=l
      ·rw[if_pos b1,show lo+j-1=lo+(j-1) by omega]
       exact C.asy _ _ (hYU _ (by omega)) (hYU _ (by omega)) (q4 (j-1) (by omega) (by omega))
      ·rw[if_neg b1]
       by_cases b2:l<i
       ·rw[if_pos b2,show lo+j-1=lo+(j-1) by omega,show lo+i-1=lo+(i-1) by omega]
        exact h4 (i-1) (j-1) (by omega) (by omega)
       ·rw[if_neg b2,show lo+j-1=lo+(j-1) by omega]
        exact h4 i (j-1) (by omega) (by omega)
     ·rw[if_neg a2,if_neg (by omega),if_neg (by omega)]
      exact h4 i j hij (by omega)
variable {R0:Keyed->Keyed->Bool}
noncomputable abbrev mir(X:Array Keyed)(i j:Nat):Array Keyed:=mirror X i j ((j-i)/2)
theorem Za5{st:SortSt}{i j:Nat}{Q:Unit->SortSt->Prop}(h:Q () (setArr st (mir (arrOf st) i j))):wpS (model prog w) A E s (reverseSlice' i j) Q st:=by
 rw[reverseSlice'_eq];exact wpS_modify h
theorem ZaQ{X:Array Keyed}{i j:Nat}(hij:i<=j)(hj:j<=X.size):Vf X (mir X i j) i (j-i):=
 ⟨mirror_perm _ _ _ _,fun k hk=>by rw[getElem?_mirror_all hj,if_neg (by omega)]⟩
theorem U7{X:Array Keyed}{i j k:Nat}(hj:j<=X.size)(h1:i<=k)(h2:k<j):gA (mir X i j) k=gA X (i+j-1-k):=by
 refine JY ?_
 rw[getElem?_mirror_all hj,if_pos ⟨h1,h2⟩]
theorem QE{X:Array Keyed}{i j k:Nat}(hj:j<=X.size)(h:k<i\/j<=k):gA (mir X i j) k=gA X k:=by
 refine JY ?_
 rw[getElem?_mirror_all hj,if_neg (by omega)]
def Eqv(R:Keyed->Keyed->Bool)(X:Array Keyed)(lo a b:Nat):Prop:=∀i j,a<=i->i<b->a<=j->j<b->R (gA X (lo+i)) (gA X (lo+j))=false
theorem Dn'.up{X:Array Keyed}{lo n:Nat}(hs:lo+n<=X.size)(h:Dn' R X lo n):Up R (mir X lo (lo+n)) lo n:=fun i j hij hj=>by
 rw[U7 hs (by omega) (by omega),U7 hs (by omega) (by omega),show lo+(lo+n)-1-(lo+j)=lo+(n-1-j) by omega,show lo+(lo+n)-1-(lo+i)=lo+(n-1-i) by omega]
 exact h _ _ (by omega) (by omega)
structure Zms(R0 R:Keyed->Keyed->Bool)(Ok:Keyed->Keyed->Prop):Prop where
 up:∀x y,R0 x y=true->R x y=true
 ok:∀x y,Ok x y->R x y=R0 x y
structure Fal(R0 R:Keyed->Keyed->Bool)(X Y:Array Keyed)(lo q k:Nat):Prop where
 t:Vf X Y lo q
 d:Dn' R Y lo q
 e:Eqv R0 Y lo q k
 st:∀i j,i<q->q<=j->j<k->R0 (gA Y (lo+j)) (gA Y (lo+i))=true
 qk:q<k
theorem Fal.turn(C:V0 prog w A s κ U R Ok)(L:Zms R0 R Ok){X Y:Array Keyed}{lo q k n:Nat}(F:Fal R0 R X Y lo q k)(hU:Zdl U X)(hs:lo+k<=X.size)(hO:∀e,lo+n<=e->Sep Ok X e)(hq:n<=q) :
  Vf X (mir Y (lo+q) (lo+k)) lo k/\Dn' R (mir Y (lo+q) (lo+k)) lo k:=by
 have sz:=F.t.size
 have uY:=hU.stir F.t
 have qk:=F.qk
 have hsY:lo+k<=Y.size:=by omega
 refine⟨(F.t.wide (ZsN _) (by omega)).trans ((ZaQ (by omega) hsY).wide (by omega) (by omega)),fun i j hij hj=>?_⟩
 by_cases a:i<q
 ·rw[QE hsY (.inl (by omega))]
  by_cases b:j<q
  ·rw[QE hsY (.inl (by omega))]
   exact F.d i j hij b
  ·rw[U7 hsY (by omega) (by omega),show lo+q+(lo+k)-1-(lo+j)=lo+(q+k-1-j) by omega]
   exact C.asy _ _ (uY _ (by omega)) (uY _ (by omega)) (L.up _ _ (F.st i (q+k-1-j) a (by omega) (by omega)))
 ·rw[U7 hsY (by omega) (by omega),U7 hsY (by omega) (by omega),show lo+q+(lo+k)-1-(lo+j)=lo+(q+k-1-j) by omega,show lo+q+(lo+k)-1-(lo+i)=lo+(q+k-1-i) by omega]
  have ok:=F.t.sep (e:=lo+(q+k-1-i)) (.inr (by omega)) (hO _ (by omega)) (lo+(q+k-1-j)) (lo+(q+k-1-i)) (by omega) (ZsN _) (by omega)
  rw[L.ok _ _ ok]
  exact F.e _ _ (by omega) (by omega) (by omega) (by omega)
theorem Fal.plain(C:V0 prog w A s κ U R Ok)(L:Zms R0 R Ok){X Y:Array Keyed}{lo q:Nat}(F:Fal R0 R X Y lo q (q+1))(hU:Zdl U X)(hs:lo+(q+1)<=X.size):Vf X Y lo (q+1)/\Dn' R Y lo (q+1):=by
 have sz:=F.t.size
 have uY:=hU.stir F.t
 refine⟨F.t.wide (ZsN _) (by omega),fun i j hij hj=>?_⟩
 by_cases b:j<q
 ·exact F.d i j hij b
 ·exact C.asy _ _ (uY _ (by omega)) (uY _ (by omega)) (L.up _ _ (F.st i j (by omega) (by omega) hj))
theorem Fal.above(C0:V0 prog w A s κ U R0 (fun _ _=>True)){X Y:Array Keyed}{lo q k:Nat}(F:Fal R0 R X Y lo q k)(hU:Zdl U X)(hs:lo+k<=X.size)(i:Nat)(hi:i<k):R0 (gA Y (lo+i)) (gA Y (lo+(k-1)))=false:=by
 have sz:=F.t.size
 have uY:=hU.stir F.t
 have qk:=F.qk
 by_cases a:i<q
 ·exact C0.asy _ _ (uY _ (by omega)) (uY _ (by omega)) (F.st i (k-1) a (by omega) (by omega))
 ·exact F.e i (k-1) (by omega) hi (by omega) (by omega)
theorem ZiN(C0:V0 prog w A s κ U R0 (fun _ _=>True)){x y z:Keyed}(ux:U x)(uy:U y)(uz:U z)(h1:R0 x y=true)(h2:R0 z y=false):R0 x z=true:=by
 cases h:R0 x z with
 |true=>rfl
 |false=>rw[C0.tr y z x uy uz ux h2 h] at h1;cases h1
theorem Ziz(C:V0 prog w A s κ U R Ok){st:SortSt}{X Z:Array Keyed}{lo n N:Nat}{Q:Option Nat->SortSt->Prop}(hk:kindOf st=κ)(hU:Zdl U X)(hn:lo+N<=X.size)(n1:1<=n)(nN:n<=N)(hO:∀e,lo+n<=e->Sep Ok X e)(t:Vf X Z lo n)(d:Dn' R Z lo n)(h:∀m Y,n<=m->m<=N->Vf X Y lo m->Up R Y lo m->Q (some m) (setArr st Y)) :
  wpS (model prog w) A E s (do
   let mut n:=n
   reverseSlice' lo (lo+n)
   for _ in [n:N] do
    let some smaller <- ltAt' (lo+n) (lo+n-1)|return none
    if smaller then break
    n:=n+1
   return some n:StateT SortSt Sem (Option Nat)) Q (setArr st Z):=by
 have sZ:=t.size
 refine wpS_bind (Za5 ?_)
 have t3:Vf X (mir Z lo (lo+n)) lo n:=t.trans ((ZaQ (by omega) (by omega)).wide (ZsN _) (by omega))
 have u3:Up R (mir Z lo (lo+n)) lo n:=d.up (by omega)
 show wpS _ _ _ _ _ _ (setArr st (mir Z lo (lo+n)))
 generalize mir Z lo (lo+n)=Y at t3 u3
 have sz3:=t3.size
 have uY:=hU.stir t3
 refine wpS_bind (wpS_mono (wpS_forRange
  (I:=fun x (c:Option (Option Nat)×Nat) (st':SortSt)=>c.1=none/\st'=setArr st Y/\c.2=x/\Up R Y lo x)
  (Q:=fun(c:Option (Option Nat)×Nat) (st':SortSt)=>c.1=none/\st'=setArr st Y/\(n<=c.2/\c.2<=N)/\Up R Y lo c.2) ?_ ?_ ⟨rfl,rfl,rfl,u3⟩) ?_)
 ·rintro x ⟨o,k⟩ st' hx1 hx2 ⟨rfl,rfl,h3,h4⟩
  dsimp only at h3 ⊢
  subst h3
  refine wpS_bind (UK C (show kindOf (setArr st Y)=κ from hk) uY (show lo+k<Y.size by omega) (show lo+k-1<Y.size by omega) (t3.sep (e:=lo+k) (.inr (by omega)) (hO _ (by omega)) _ _ (by omega) (ZsN _) (by omega)) ?_)
  dsimp only
  show wpS _ _ _ _ (if R (gA Y (lo+k)) (gA Y (lo+k-1))=true then _ else _) _ _
  cases hR:R (gA Y (lo+k)) (gA Y (lo+k-1)) with
  |true =>
   rw[if_pos rfl]
   exact wpS_pure ⟨rfl,rfl,⟨hx1,by dsimp only;omega⟩,h4⟩
  |false =>
   rw[if_neg (by decide)]
   exact wpS_pure ⟨rfl,rfl,rfl,h4.more C uY (by omega) (.inr hR)⟩
 ·rintro⟨o,k⟩ st' ⟨h1,h2,h3,h4⟩
  dsimp only at h3 ⊢
  subst h3
  exact⟨h1,h2,by omega,h4⟩
 ·rintro⟨o,k⟩ st' ⟨rfl,rfl,h3,h4⟩
  dsimp only at h3 h4 ⊢
  exact wpS_pure (h k Y h3.1 h3.2 (t3.wide (ZsN _) (by omega)) h4)
theorem Zdn(C:V0 prog w A s κ U R Ok)(C0:V0 prog w A s κ U R0 (fun _ _=>True))(L:Zms R0 R Ok){st:SortSt}{X:Array Keyed}{lo n N:Nat}{Q:Option Nat->SortSt->Prop}(hk:kindOf st=κ)(hU:Zdl U X)(hn:lo+N<=X.size)(n1:1<=n)(nN:n<N)(hO:∀e,lo+n<=e->Sep Ok X e)(d1:Dn' R X lo n)(s1:∀i,i<n->R0 (gA X (lo+n)) (gA X (lo+i))=true)(h:∀m Y,n<=m->m<=N->Vf X Y lo m->Up R Y lo m->Q (some m) (setArr st Y)) :
  wpS (model prog w) A E s (do
   rule "list.sort.descending-run"
   let mut n:=n+1
   let mut neq:=0
   for _ in [n:N] do
    let some smaller <- ltAt' (lo+n) (lo+n-1)|return none
    if smaller then
     if neq>0 then reverseSlice' (lo+n-(neq+1)) (lo+n)
     neq:=0
    else
     let some larger <- ltAt' (lo+n-1) (lo+n)|return none
     if larger then break
     neq:=neq+1
    n:=n+1
   if neq>0 then reverseSlice' (lo+n-(neq+1)) (lo+n)
   reverseSlice' lo (lo+n)
   for _ in [n:N] do
    let some smaller <- ltAt' (lo+n) (lo+n-1)|return none
    if smaller then break
    n:=n+1
   return some n:StateT SortSt Sem (Option Nat)) Q (setArr st X):=by
 refine wpS_bind (wpS_lift (wpAny_rule ⟨rfl, ?_⟩))
 have irr:∀{x:Keyed},U x->R0 x x=false:=fun {x} u=>by
  cases h:R0 x x with
  |false=>rfl
  |true=>have:=C0.asy x x u u h;rw[h] at this;cases this
 refine wpS_bind (wpS_mono (wpS_forRange
  (I:=fun x (c:Option (Option Nat)×Nat×Nat) (st':SortSt)=>c.1=none/\c.2.1=x/\c.2.2<x/\∃Y,st'=setArr st Y/\Fal R0 R X Y lo (x-1-c.2.2) x/\n<=x-1-c.2.2)
  (Q:=fun(c:Option (Option Nat)×Nat×Nat) (st':SortSt)=>c.1=none/\(n+1<=c.2.1/\c.2.1<=N)/\c.2.2<c.2.1/\∃Y,st'=setArr st Y/\Fal R0 R X Y lo (c.2.1-1-c.2.2) c.2.1/\n<=c.2.1-1-c.2.2) ?_ ?_
  ⟨rfl,rfl,Nat.succ_pos _,X,rfl,⟨(Vf.refl _ _ _),d1,fun i j i1 i2 j1 j2=>?_,fun i j i1 j1 j2=>?_, ?_⟩, ?_⟩) ?_)
 ·rintro x ⟨o,k,e⟩ st' hx1 hx2 ⟨rfl,h3,he,Y,rfl,F,hq⟩
  dsimp only at h3 he F hq ⊢
  subst h3
  have szY:=F.t.size
  have uY:=hU.stir F.t
  have kN:k<N:=by omega
  have i1:lo+k<Y.size:=by omega
  have i2:lo+k-1<Y.size:=by omega
  have ek:lo+(k-1)=lo+k-1:=by omega
  refine wpS_bind (UK C0 (show kindOf (setArr st Y)=κ from hk) uY i1 i2 trivial ?_)
  dsimp only
  show wpS _ _ _ _ (if R0 (gA Y (lo+k)) (gA Y (lo+k-1))=true then _ else _) _ _
  have nxt:∀Z,Vf X Z lo k->Dn' R Z lo k->(∀i,i<k->R0 (gA Z (lo+k)) (gA Z (lo+i))=true)->Fal R0 R X Z lo (k+1-1-0) (k+1):=fun Z t d a=>by
   rw[show k+1-1-0=k by omega]
   have uZ:=hU.stir t
   have sZ:=t.size
   refine⟨t,d,fun i j a1 a2 b1 b2=>?_,fun i j a1 b1 b2=>?_,ZuD _⟩
   ·obtain rfl:i=k:=by omega
    obtain rfl:j=i:=by omega
    exact irr (uZ _ (by omega))
   ·obtain rfl:j=k:=by omega
    exact a i a1
  cases hR:R0 (gA Y (lo+k)) (gA Y (lo+k-1)) with
  |true =>
   rw[if_pos rfl]
   have low:∀i,i<k->R0 (gA Y (lo+k)) (gA Y (lo+i))=true:=fun i hi=>by
    have:=F.above C0 hU (by omega) i hi
    rw[ek] at this
    exact ZiN C0 (uY _ i1) (uY _ i2) (uY _ (by omega)) hR this
   by_cases he0:e>0
   ·rw[if_pos he0]
    obtain⟨t2,d2⟩:=F.turn C L hU (by omega) hO hq
    rw[show lo+(k-1-e)=lo+k-(e+1) by omega] at t2 d2
    refine wpS_bind (Za5 (wpS_pure ⟨rfl,rfl,Nat.succ_pos _,mir Y (lo+k-(e+1)) (lo+k),rfl,nxt _ t2 d2 fun i hi=>?_, ?_⟩))
    ·have hsY:lo+k<=Y.size:=by omega
     rw[QE hsY (.inr (ZsN _))]
     by_cases a:lo+i<lo+k-(e+1)
     ·rw[QE hsY (.inl a)];exact low i hi
     ·rw[U7 hsY (by omega) (by omega),show lo+k-(e+1)+(lo+k)-1-(lo+i)=lo+(k-(e+1)+k-1-i) by omega]
      exact low _ (by omega)
    ·dsimp only;omega
   ·rw[if_neg he0]
    obtain rfl:e=0:=by omega
    have F':Fal R0 R X Y lo (k-1) (k-1+1):=by
     rw[show k-1+1=k by omega];exact F
    obtain⟨t2,d2⟩:=F'.plain C L hU (by omega)
    rw[show k-1+1=k by omega] at t2 d2
    exact wpS_pure ⟨rfl,rfl,Nat.succ_pos _,Y,rfl,nxt _ t2 d2 low,by dsimp only;omega⟩
  |false =>
   rw[if_neg (by decide)]
   refine wpS_bind (UK C0 (show kindOf (setArr st Y)=κ from hk) uY i2 i1 trivial ?_)
   dsimp only
   show wpS _ _ _ _ (if R0 (gA Y (lo+k-1)) (gA Y (lo+k))=true then _ else _) _ _
   cases hL:R0 (gA Y (lo+k-1)) (gA Y (lo+k)) with
   |true =>
    rw[if_pos rfl]
    exact wpS_pure ⟨rfl,⟨by dsimp only;omega,by dsimp only;omega⟩,he,Y,rfl,F,hq⟩
   |false =>
    rw[if_neg (by decide)]
    refine wpS_pure ⟨rfl,rfl,Nat.succ_lt_succ he,Y,rfl, ?_, ?_⟩
    ·dsimp only
     rw[show k+1-1-(e+1)=k-1-e by omega]
     have qk:=F.qk
     have bd:∀q,q<k->U (gA Y (lo+q)):=fun q hq=>uY _ (by omega)
     have gr:∀q,k-1-e<=q->q<k->R0 (gA Y (lo+q)) (gA Y (lo+k))=false/\R0 (gA Y (lo+k)) (gA Y (lo+q))=false:=fun q q1 q2=>by
      have z1:=F.e q (k-1) q1 q2 (by omega) (by omega)
      have z2:=F.e (k-1) q (by omega) (by omega) q1 q2
      rw[ek] at z1 z2
      exact⟨C0.tr _ _ _ (uY _ i1) (uY _ i2) (bd q q2) hL z1,C0.tr _ _ _ (bd q q2) (uY _ i2) (uY _ i1) z2 hR⟩
     refine⟨F.t,F.d,fun i j a1 a2 b1 b2=>?_,fun i j a1 b1 b2=>?_,by omega⟩
     ·by_cases a:i<k
      ·by_cases b:j<k
       ·exact F.e i j a1 a b1 b
       ·obtain rfl:j=k:=by omega
        exact(gr i a1 a).1
      ·obtain rfl:i=k:=by omega
       by_cases b:j<i
       ·exact(gr j b1 b).2
       ·obtain rfl:j=i:=by omega
        exact irr (uY _ i1)
     ·by_cases b:j<k
      ·exact F.st i j a1 b1 b
      ·obtain rfl:j=k:=by omega
       have z:=F.st i (j-1) a1 (by omega) (by omega)
       rw[ek] at z
       cases hc:R0 (gA Y (lo+j)) (gA Y (lo+i)) with
       |true=>rfl
       |false=>rw[C0.tr _ _ _ (bd i (by omega)) (uY _ i1) (uY _ i2) hc hL] at z;cases z
    ·dsimp only;omega
 ·rintro⟨o,k,e⟩ st' ⟨h1,h3,he,Y,h4,F,hq⟩
  dsimp only at h3 he F hq ⊢
  subst h3
  rw[show max (n+1) N=N by omega] at *
  exact⟨h1,⟨by omega,ZsN _⟩,he,Y,h4,F,hq⟩
 ·dsimp only at i1 j1
  obtain rfl:i=n:=by omega
  obtain rfl:j=i:=by omega
  exact irr (hU _ (by omega))
 ·dsimp only at i1 j1
  obtain rfl:j=n:=by omega
  exact s1 i (by omega)
 ·dsimp only;omega
 ·dsimp only;omega
 ·rintro⟨o,n2,e⟩ st' ⟨rfl,hn2,he,Y,rfl,F,hq⟩
  dsimp only at hn2 he F hq ⊢
  have hO2:∀e,lo+n2<=e->Sep Ok X e:=fun e h=>hO e (by omega)
  by_cases he0:e>0
  ·rw[if_pos he0]
   refine wpS_bind (Za5 ?_)
   obtain⟨t2,d2⟩:=F.turn C L hU (by omega) hO hq
   rw[show lo+(n2-1-e)=lo+n2-(e+1) by omega] at t2 d2
   exact Ziz C hk hU hn (by omega) hn2.2 hO2 t2 d2 fun m Y a b=>h m Y (by omega) b
  ·rw[if_neg he0]
   obtain rfl:e=0:=by omega
   have F':Fal R0 R X Y lo (n2-1) (n2-1+1):=by
    rw[show n2-1+1=n2 by omega];exact F
   obtain⟨t2,d2⟩:=F'.plain C L hU (by omega)
   rw[show n2-1+1=n2 by omega] at t2 d2
   exact Ziz C hk hU hn (by omega) hn2.2 hO2 t2 d2 fun m Y a b=>h m Y (by omega) b
theorem ZeO(C:V0 prog w A s κ U R Ok)(C0:V0 prog w A s κ U R0 (fun _ _=>True))(L:Zms R0 R Ok){st:SortSt}{lo N:Nat}{Q:Option Nat->SortSt->Prop}(hk:kindOf st=κ)(hU:Zdl U (arrOf st))(hn:lo+N<=(arrOf st).size)(n1:1<=N)(hO:∀e,lo<e->Sep Ok (arrOf st) e)(h:∀m Y,1<=m->m<=N->Vf (arrOf st) Y lo m->Up R Y lo m->Q (some m) (setArr st Y)):wpS (model prog w) A E s (countRun' lo N) Q st:=by
 rw[countRun'_eq]
 refine wpS_bind (wpS_mono (wpS_forRange
  (I:=fun x (c:Option (Option Nat)×Nat) (st':SortSt)=>c.1=none/\st'=st/\c.2=x/\Up R (arrOf st) lo x)
  (Q:=fun(c:Option (Option Nat)×Nat) (st':SortSt)=>c.1=none/\st'=st/\(1<=c.2/\c.2<=N)/\Up R (arrOf st) lo c.2/\(c.2=N\/R (gA (arrOf st) (lo+c.2)) (gA (arrOf st) (lo+c.2-1))=true)) ?step ?fin ⟨rfl,rfl,rfl,fun i j hij hj=>by omega⟩) ?post)
 case fin =>
  rintro⟨o,n⟩ st' ⟨h1,h2,h3,h4⟩
  dsimp only at h1 h3 ⊢
  subst h3
  exact⟨h1,h2,by omega,h4,.inl (by omega)⟩
 case step =>
  rintro x ⟨o,n⟩ st' hx1 hx2 ⟨rfl,rfl,h3,h4⟩
  dsimp only at h3 ⊢
  subst h3
  refine wpS_bind (UK C hk hU (show lo+n<_ by omega) (show lo+n-1<_ by omega) (hO (lo+n) (by omega) _ _ (by omega) (ZsN _) (by omega)) ?_)
  dsimp only
  cases hR:R (gA (arrOf st') (lo+n)) (gA (arrOf st') (lo+n-1)) with
  |true =>
   rw[if_pos rfl]
   exact wpS_pure ⟨rfl,rfl,by dsimp only;omega,h4,.inr hR⟩
  |false =>
   rw[if_neg (by decide)]
   exact wpS_pure ⟨rfl,rfl,rfl,h4.more C hU (by omega) (.inr hR)⟩
 case post =>
  rintro⟨o,n⟩ st' ⟨h1,h2,h3,h4,h5⟩
  have h2:=h2.symm
  subst h2
  dsimp only at h1 h3 h4 h5 ⊢
  subst h1
  dsimp only
  by_cases e1:n=N
  ·rw[if_pos (by simpa using e1)]
   exact wpS_pure (h n (arrOf st) h3.1 h3.2 (Vf.refl _ _ _) h4)
  rw[if_neg (by simpa using e1)]
  have h5:=h5.resolve_left e1
  have bn:lo+n<(arrOf st).size:=by omega
  have bn1:lo+n-1<(arrOf st).size:=by omega
  have en:lo+(n-1)=lo+n-1:=by omega
  rw[L.ok _ _ (hO (lo+n) (by omega) (lo+n-1) _ (by omega) (ZsN _) bn)] at h5
  have u:∀q,q<n->U (gA (arrOf st) (lo+q)):=fun q hq=>hU _ (by omega)
  have un:=hU _ bn
  have un1:U (gA (arrOf st) (lo+n-1)):=hU _ bn1
  by_cases e2:n>1
  ·rw[if_pos e2]
   refine wpS_bind (UK C0 hk hU (show lo<_ by omega) bn1 trivial ?_)
   dsimp only
   cases hR:R0 (gA (arrOf st) lo) (gA (arrOf st) (lo+n-1)) with
   |true =>
    rw[if_pos rfl]
    exact wpS_pure (h n (arrOf st) h3.1 h3.2 (Vf.refl _ _ _) h4)
   |false =>
    rw[if_neg (by decide)]
    refine wpS_bind (Za5 ?_)
    have u0:Up R0 (arrOf st) lo n:=fun i j hij hj=>by
     cases hc:R0 (gA (arrOf st) (lo+j)) (gA (arrOf st) (lo+i)) with
     |false=>rfl
     |true=>have:=L.up _ _ hc;rw[h4 i j hij hj] at this;cases this
    have irr:∀{x:Keyed},U x->R0 x x=false:=fun {x} u=>by
     cases h:R0 x x with
     |false=>rfl
     |true=>have:=C0.asy x x u u h;rw[h] at this;cases this
    have ul:U (gA (arrOf st) lo):=u 0 (by omega)
    have le1:∀q,q<n->R0 (gA (arrOf st) (lo+q)) (gA (arrOf st) lo)=false/\R0 (gA (arrOf st) (lo+n-1)) (gA (arrOf st) (lo+q))=false:=fun q hq=>by
     refine⟨?_, ?_⟩
     ·by_cases z:q=0
      ·subst z;exact irr ul
      ·exact u0 0 q (by omega) hq
     ·by_cases z:q=n-1
      ·subst z;rw[en];exact irr un1
      ·have:=u0 q (n-1) (by omega) (by omega);rw[en] at this;exact this
    have eq1:∀i j,i<n->j<n->R0 (gA (arrOf st) (lo+i)) (gA (arrOf st) (lo+j))=false:=fun i j hi hj=>C0.tr _ _ _ (u j hj) ul (u i hi) (C0.tr _ _ _ (u j hj) un1 ul (le1 j hj).2 hR) (le1 i hi).1
    have t0:Vf (arrOf st) (mir (arrOf st) lo (lo+n)) lo n:=(ZaQ (by omega) (by omega)).wide (ZsN _) (by omega)
    have hs:lo+n<=(arrOf st).size:=by omega
    have d0:Dn' R (mir (arrOf st) lo (lo+n)) lo n:=fun i j hij hj=>by
     rw[U7 hs (by omega) (by omega),U7 hs (by omega) (by omega),show lo+(lo+n)-1-(lo+j)=lo+(n-1-j) by omega,show lo+(lo+n)-1-(lo+i)=lo+(n-1-i) by omega]
     rw[L.ok _ _ (hO (lo+(n-1-i)) (by omega) (lo+(n-1-j)) _ (by omega) (ZsN _) (by omega))]
     exact eq1 _ _ (by omega) (by omega)
    have s0:∀i,i<n->R0 (gA (mir (arrOf st) lo (lo+n)) (lo+n)) (gA (mir (arrOf st) lo (lo+n)) (lo+i))=true:=fun i hi=>by
     rw[QE hs (.inr (ZsN _)),U7 hs (by omega) (by omega),show lo+(lo+n)-1-(lo+i)=lo+(n-1-i) by omega]
     refine ZiN C0 un un1 (u _ (by omega)) h5 ?_
     rw[<- en]
     exact eq1 _ _ (by omega) (by omega)
    exact Zdn C C0 L hk (hU.stir t0) (by rw[t0.size];exact hn) h3.1 (by omega) (fun e he=>t0.sep (.inr he) (hO e (by omega))) d0 s0 fun m Y a b c d=>h m Y (by omega) b ((t0.wide (ZsN _) (by omega)).trans c) d
  ·rw[if_neg e2]
   obtain rfl:n=1:=by omega
   show wpS _ _ _ _ _ _ (setArr st (arrOf st))
   refine Zdn C C0 L hk hU hn (ZsN _) (by omega) (fun e he=>hO e (by omega)) (fun i j hij hj=>by omega) (fun i hi=>?_) fun m Y a b c d=>h m Y a b c d
   obtain rfl:i=0:=by omega
   rw[show lo+1-1=lo+0 by omega] at h5
   exact h5
end
noncomputable abbrev ZeN:=Nat×Nat×Nat
def UpS(R:Keyed->Keyed->Bool)(Ok:Keyed->Keyed->Prop)(X:Array Keyed)(c n:Nat):Prop:=Up R X c n/\Sep Ok X c
noncomputable def V4(R:Keyed->Keyed->Bool)(Ok:Keyed->Keyed->Prop)(X:Array Keyed):Nat->List ZeN->Nat->Prop
 |s,[],e=>s=e
 |s,(c,n,_)::r,e=>c=s/\0<n/\UpS R Ok X c n/\V4 R Ok X (s+n) r e
section
variable {prog:Program}{w:World}{A:Around}{E:Value->Shared->Prop}{s:Shared}{κ:SortKind}{U:Keyed->Prop}{R:Keyed->Keyed->Bool}{Ok:Keyed->Keyed->Prop}
theorem V4.le{X:Array Keyed}:∀{L:List ZeN}{a e:Nat},V4 R Ok X a L e->a+L.length<=e
 |[],a,e,h=>by have h:a=e:=h;simp[h]
 |(c,n,p)::L,a,e,h=>by
  obtain⟨_,h1,_,h2⟩:=h
  have:=V4.le h2
  simp only[Ztq];omega
theorem V4.app{X:Array Keyed}:∀{L M:List ZeN}{a e:Nat},V4 R Ok X a (L++M) e ↔ ∃q,V4 R Ok X a L q/\V4 R Ok X q M e
 |[],M,a,e=>⟨fun h=>⟨a,rfl,h⟩,fun⟨q,h1,h2⟩=>by have h1:a=q:=h1;subst h1;exact h2⟩
 |(c,n,p)::L,M,a,e=>by
  show (c=a/\0<n/\UpS R Ok X c n/\V4 R Ok X (a+n) (L++M) e) ↔ ∃q,(c=a/\0<n/\UpS R Ok X c n/\V4 R Ok X (a+n) L q)/\V4 R Ok X q M e
  constructor
  ·rintro⟨h1,h2,h3,h4⟩
   obtain⟨q,q1,q2⟩:=V4.app.mp h4
   exact⟨q,⟨h1,h2,h3,q1⟩,q2⟩
  ·rintro⟨q,⟨h1,h2,h3,h4⟩,q2⟩
   exact⟨h1,h2,h3,V4.app.mpr ⟨q,h4,q2⟩⟩
theorem Up.stir{X Y:Array Keyed}{lo m c n:Nat}(h:Up R X c n)(t:Vf X Y lo m)(d:c+n<=lo\/lo+m<=c):Up R Y c n:=fun i j hij hj=>by
 rw[JY (t.out (c+j) (by omega)),JY (t.out (c+i) (by omega))]
 exact h i j hij hj
theorem UpS.stir{X Y:Array Keyed}{lo m c n:Nat}(h:UpS R Ok X c n)(t:Vf X Y lo m)(d:c+n<=lo\/lo+m<=c):UpS R Ok Y c n:=⟨h.1.stir t d,t.sep (by omega) h.2⟩
theorem V4.stir{X Y:Array Keyed}{lo m:Nat}(t:Vf X Y lo m):∀{L:List ZeN}{a e:Nat},V4 R Ok X a L e->(e<=lo\/lo+m<=a)->V4 R Ok Y a L e
 |[],a,e,h,_=>h
 |(c,n,p)::L,a,e,h,d=>by
  obtain⟨h1,h2,h3,h4⟩:=h
  have:=V4.le h4
  exact⟨h1,h2,h3.stir t (by omega),V4.stir t h4 (by omega)⟩
theorem Up.srt{X:Array Keyed}{c n:Nat}(h:Up R X c n)(hs:c+n<=X.size):Srt R ((X.toList.drop c).take n):=by
 refine ZtE.mpr fun i j hi hj hij=>?_
 have hi':i<n:=by rw[ZsY] at hi;omega
 have hj':j<n:=by rw[ZsY] at hj;omega
 have e:∀t,t<n->∀ht,((X.toList.drop c).take n)[t]'ht=gA X (c+t):=fun t htn ht=>by
  have h1:((X.toList.drop c).take n)[t]?=some (gA X (c+t)):=by
   rw[Zto,if_pos htn,Ztp,Ztc,Uc (by omega)]
  rw[ZsH ht] at h1
  exact Option.some.inj h1
 rw[e i hi' hi,e j hj' hj]
 exact h i j hij hj'
theorem Srt.up{X:Array Keyed}{c n:Nat}{pre W post:List Keyed}(hX:X.toList=pre++(W++post))(lp:pre.length=c)(lW:W.length=n)(h:Srt R W):Up R X c n:=fun i j hij hj=>by
 have g:∀t (ht:t<n),gA X (c+t)=W[t]'(by omega):=fun t ht=>by
  refine Ze9 ?_
  rw[<- Ztc,hX,ZsU (by omega),lp,show c+t-c=t by omega,ZsX (by omega),ZsH (by omega)]
 rw[g i (by omega),g j hj]
 exact ZtE.mp h i j (by omega) (by omega) hij
theorem Zhm{L M:List ZeN}{a b c:ZeN}{P:Array ZeN}(h:P.toList=L++a::b::M):(((P.setIfInBounds L.length c).eraseIdxIfInBounds (L.length+1))).toList=L++c::M:=by
 have hz:L.length+1<(P.setIfInBounds L.length c).size:=by
  have:=congrArg List.length h
  rw[ZsP] at this
  rw[Array.size_setIfInBounds,this];simp
 rw[Array.eraseIdxIfInBounds,dif_pos hz,Array.toList_eraseIdx,ZuP,h]
 rw[ZuC _ _ (ZsN _),ZuR,ZuT,List.eraseIdx_append_of_length_le (by omega),show L.length+1-L.length=1 by omega]
 rfl
theorem Zby(C:V0 prog w A s κ U R Ok){st:SortSt}{L M:List ZeN}{c n p d m p2 e:Nat}{Q:Bool->SortSt->Prop}(hk:kindOf st=κ)(hf:failedOf st=none)(hU:Zdl U (arrOf st))(hp:(pendingOf st).toList=L++(c,n,p)::(d,m,p2)::M)(hr:V4 R Ok (arrOf st) 0 (pendingOf st).toList e)(he:e<=(arrOf st).size)(h:∀st',kindOf st'=κ->failedOf st'=none->(pendingOf st').toList=L++(c,n+m,p)::M->Vf (arrOf st) (arrOf st') c (n+m)->c+n+m<=e->V4 R Ok (arrOf st') 0 (pendingOf st').toList e->Q true st') :
  wpS (model prog w) A E s (mergeAt' L.length) Q st:=by
 rw[hp] at hr
 obtain⟨q,r1,r2⟩:=V4.app.mp hr
 obtain⟨rfl,n0,u1,rfl,m0,u2,r3⟩:=r2
 have le3:=V4.le r3
 have hsz:c+n+m<=(arrOf st).size:=by omega
 have sp:(arrOf st).toList=(arrOf st).toList.take c++(((arrOf st).toList.drop c).take n++(((arrOf st).toList.drop (c+n)).take m++(arrOf st).toList.drop (c+n+m))):=by
  rw[VT,VT,Ztg]
 have lt:(arrOf st).toList.length=(arrOf st).size:=ZsP
 have inU:∀x∈(arrOf st).toList,U x:=fun x hx=>by
  obtain⟨i,hi⟩:=Ztj hx
  have hl:=(ZsJ.mp hi).1
  rw[Ztc] at hi
  rw[<- Ze9 hi]
  exact hU i (by omega)
 have i1:(pendingOf st)[L.length]?=some (c,n,p):=by
  rw[<- Ztc,hp,ZsU (ZsN _),ZuR];rfl
 have i2:(pendingOf st)[L.length+1]?=some (c+n,m,p2):=by
  rw[<- Ztc,hp,ZsU (by omega),show L.length+1-L.length=1 by omega];rfl
 refine Zc0 C hk hf i1 i2 sp (by rw[ZsY];omega) (by rw[ZsY,ZtK];omega) (by rw[ZsY,ZtK];omega) rfl n0 m0
  (fun x hx=>inU x (Zt0 (Ztl hx))) (fun x hx=>inU x (Zt0 (Ztl hx))) (u1.1.srt (by omega)) (u2.1.srt (by omega)) (fun y hy x hx=>?ok) fun st' W k1 k2 k3 k4 k5 k6=>?main
 case ok =>
  obtain⟨i,hi⟩:=Ztj hy
  obtain⟨j,hj⟩:=Ztj hx
  rw[Zto] at hi hj
  split at hi
  ·split at hj
   ·rename_i ci cj
    rw[Ztp,Ztc] at hi hj
    rw[<- Ze9 hi,<- Ze9 hj]
    exact u2.2 _ _ (by omega) (by omega) (by omega)
   ·cases hj
  ·cases hi
 have lW:W.length=n+m:=by rw[k6.length_eq,Ztw,ZsY,ZsY,ZtK,ZtK];omega
 have lpre:((arrOf st).toList.take c).length=c:=by rw[ZsY];omega
 have hst:Vf (arrOf st) (arrOf st') c (n+m):=by
  refine⟨?_,fun k hk'=>?_⟩
  ·refine Zus.mpr ?_
   rw[k4]
   conv=>rhs;rw[sp]
   refine List.Perm.append_left _ ?_
   rw[<- ZsS]
   exact k6.append_right _
  ·rw[<- Ztc,<- Ztc,k4]
   rcases hk' with z|z
   ·rw[ZsX (by omega),Zto,if_pos z]
   ·rw[ZsU (by omega),lpre,ZsU (by omega),lW,Ztp]
    congr 1;omega
 have kp:(pendingOf st').toList=L++(c,n+m,p)::M:=by rw[k3];exact Zhm hp
 refine h st' k1 k2 kp hst (by omega) ?_
 rw[kp]
 refine V4.app.mpr ⟨c,r1.stir hst (.inl (ZsN _)),rfl,by omega,⟨Srt.up k4 lpre lW k5,hst.sep (.inl (ZsN _)) u1.2⟩, ?_⟩
 rw[<- Nat.add_assoc]
 exact r3.stir hst (.inr (by omega))
variable {R0:Keyed->Keyed->Bool}
structure RSt(κ:SortKind)(U:Keyed->Prop)(R:Keyed->Keyed->Bool)(Ok:Keyed->Keyed->Prop)(X:Array Keyed)(lo hi:Nat)(st':SortSt):Prop where
 kd:kindOf st'=κ
 fl:failedOf st'=none
 pm:(arrOf st').Perm X
 us:Zdl U (arrOf st')
 rn:V4 R Ok (arrOf st') 0 (pendingOf st').toList lo
 le:lo<=X.size
 lh:lo<=hi
 sp:∀e,e=lo\/hi<=e->Sep Ok (arrOf st') e
theorem RSt.sz{X:Array Keyed}{lo hi:Nat}{st':SortSt}(h:RSt κ U R Ok X lo hi st'):(arrOf st').size=X.size:=h.pm.size_eq
theorem V4.mod{X:Array Keyed}{f:ZeN->ZeN}(hf:∀c n p,∃p',f (c,n,p)=(c,n,p')):∀{L:List ZeN}{a e:Nat},V4 R Ok X a L e->∀i,V4 R Ok X a (L.modify i f) e
 |[],a,e,h,i=>by simpa using h
 |(c,n,p)::L,a,e,h,0=>by
  obtain⟨p',hp'⟩:=hf c n p
  rw[List.modify_zero_cons,hp']
  exact h
 |(c,n,p)::L,a,e,h,i+1=>by
  rw[List.modify_succ_cons]
  exact⟨h.1,h.2.1,h.2.2.1,V4.mod hf h.2.2.2 i⟩
theorem ZkY{L:List ZeN}{i:Nat}(h:i+1<L.length):∃A a b B,L=A++a::b::B/\A.length=i:=by
 refine⟨L.take i,L[i],L[i+1],L.drop (i+2), ?_,by rw[ZsY];omega⟩
 rw[<- Zte h,<- Zte (by omega),Ztg]
theorem UJ(C:V0 prog w A s κ U R Ok){X:Array Keyed}{st1:SortSt}{lo hi i:Nat}{Q:Bool->SortSt->Prop}(S1:RSt κ U R Ok X lo hi st1)(hi':i+1<(pendingOf st1).size)(h:∀st',RSt κ U R Ok X lo hi st'->(pendingOf st').size+1=(pendingOf st1).size->(∀n,Up R (arrOf st1) lo n->Up R (arrOf st') lo n)->Q true st'):wpS (model prog w) A E s (mergeAt' i) Q st1:=by
 obtain⟨L,⟨c,n,p⟩,⟨d,m,p2⟩,M,hL,rfl⟩:=ZkY (L:=(pendingOf st1).toList) (by rw[ZsP];exact hi')
 refine Zby C S1.kd S1.fl S1.us hL S1.rn (by rw[S1.sz];exact S1.le) fun st' k1 k2 k3 k4 k5 k6=>h st' ⟨k1,k2,k4.perm.trans S1.pm,S1.us.stir k4,k6,S1.le,S1.lh,fun e he=>k4.sep (.inr (by have:=S1.lh;omega)) (S1.sp e he)⟩ ?_ fun q hq=>hq.stir k4 (.inr (by omega))
 have e1:=congrArg List.length hL
 have e2:=congrArg List.length k3
 rw[ZsP] at e1 e2
 simp only[Ztw,Ztq] at e1 e2
 omega
theorem Qu(C:V0 prog w A s κ U R Ok)(C0:V0 prog w A s κ U R0 (fun _ _=>True))(L:Zms R0 R Ok){st:SortSt}{Q:Unit->SortSt->Prop}(hk:kindOf st=κ)(hf:failedOf st=none)(hU:Zdl U (arrOf st))(hp:pendingOf st=#[])(hO:∀e,Sep Ok (arrOf st) e)(h:∀st',failedOf st'=none->(arrOf st').Perm (arrOf st)->Up R (arrOf st') 0 (arrOf st).size->Q () st'):wpS (model prog w) A E s sortRuns' Q st:=by
 rw[sortRuns'_eq]
 refine wpS_bind (wpS_get ?_)
 dsimp only
 have S0:RSt κ U R Ok (arrOf st) 0 0 st:=⟨hk,hf,Array.Perm.refl _,hU,by rw[hp];rfl,Zts _,ZsN _,fun e _=>hO e⟩
 generalize hX:arrOf st=X at S0 h
 refine wpS_bind (wpS_mono (wpS_forRange
  (I:=fun x (c:Option Unit×Nat) (st':SortSt)=>c.1=none/\RSt κ U R Ok X c.2 c.2 st'/\(x<=c.2\/X.size<=c.2))
  (Q:=fun(c:Option Unit×Nat) (st':SortSt)=>c.1=none/\RSt κ U R Ok X X.size X.size st') ?step ?fin ⟨rfl,S0,.inl (ZsN _)⟩) ?post)
 case fin =>
  rintro⟨o,lo⟩ st' ⟨h1,h2,h3⟩
  dsimp only at h1 h2 h3 ⊢
  have:=h2.le
  obtain rfl:lo=X.size:=by omega
  exact⟨h1,h2⟩
 case step =>
  rintro x ⟨o,lo⟩ st1 _ hx ⟨rfl,S1,h3⟩
  dsimp only at S1 h3 ⊢
  have hle:=S1.le
  have hsz:=S1.sz
  by_cases e0:lo ≥ X.size
  ·rw[if_pos e0]
   obtain rfl:lo=X.size:=by omega
   exact wpS_pure ⟨rfl,S1⟩
  rw[if_neg e0]
  refine wpS_bind (ZeO C C0 L S1.kd S1.us (show lo+(X.size-lo)<=_ by omega) (by omega) (fun e he=>S1.sp e (.inr (by omega))) fun m Y m1 m2 t u=>?_)
  dsimp only
  have S1':RSt κ U R Ok X lo (lo+m) (setArr st1 Y):=⟨S1.kd,S1.fl,t.perm.trans S1.pm,S1.us.stir t,S1.rn.stir t (.inl (ZsN _)),S1.le,by omega,fun e he=>t.sep (by omega) (S1.sp e (by omega))⟩
  by_cases e1:m<minRun' X.size X.size 0
  ·rw[if_pos e1]
   have f1:m<=min (X.size-lo) (minRun' X.size X.size 0):=by omega
   have f2:min (X.size-lo) (minRun' X.size X.size 0)<=X.size-lo:=ZuL _ _
   generalize min (X.size-lo) (minRun' X.size X.size 0)=N1 at f1 f2
   refine wpS_bind (wpS_lift (wpAny_rule ⟨rfl, ?_⟩))
   refine wpS_bind (Zjk C (show kindOf (setArr st1 Y)=κ from S1.kd) S1'.us (show lo+N1<=(arrOf (setArr st1 Y)).size by rw[S1'.sz];omega) f1 (by omega) u (fun e he=>S1'.sp e (.inr he)) fun Y2 t2 u2=>?_)
   rw[if_neg (by decide)]
   have t2:Vf Y Y2 lo N1:=t2
   have S2:RSt κ U R Ok X lo (lo+N1) (setArr st1 Y2):=⟨S1.kd,S1.fl,t2.perm.trans S1'.pm,S1'.us.stir t2,S1'.rn.stir t2 (.inl (ZsN _)),S1.le,by omega,fun e he=>t2.sep (by omega) (S1'.sp e (by omega))⟩
   show wpS _ _ _ _ _ _ (setArr st1 Y2)
   have PUSH:∀st3,RSt κ U R Ok X lo (lo+N1) st3->Up R (arrOf st3) lo (N1)->RSt κ U R Ok X (lo+(N1)) (lo+(N1)) (setPending st3 ((pendingOf st3).push (lo,N1,0))):=fun st3 S3 u3 =>
    ⟨S3.kd,S3.fl,S3.pm,S3.us,by
     show V4 R Ok (arrOf st3) 0 ((pendingOf st3).push (lo,N1,0)).toList (lo+(N1))
     rw[Zu9]
     exact V4.app.mpr ⟨lo,S3.rn,rfl,by omega,⟨u3,S3.sp lo (.inl rfl)⟩,rfl⟩,by omega,ZsN _,fun e he=>S3.sp e (.inr (by omega))⟩
   refine wpS_bind (wpS_get ?_)
   cases hb:(pendingOf (setArr st1 Y2)).back? with
   |none =>
    dsimp only
    exact wpS_bind (wpS_modify (wpS_pure ⟨rfl,PUSH _ S2 u2,.inl (by dsimp only;omega)⟩))
   |some q =>
    obtain⟨s1,n1,p1⟩:=q
    dsimp only
    refine wpS_bind (wpS_mono (wpS_forRange
     (I:=fun _ (c:Option Unit×Unit) (st':SortSt)=>c.1=none/\RSt κ U R Ok X lo (lo+N1) st'/\Up R (arrOf st') lo (N1))
     (Q:=fun(c:Option Unit×Unit) (st':SortSt)=>c.1=none/\RSt κ U R Ok X lo (lo+N1) st'/\Up R (arrOf st') lo (N1)) ?_ (fun c st' hc=>hc) ⟨rfl,S2,u2⟩) ?_)
    ·rintro y ⟨o,_⟩ st3 _ hy ⟨rfl,S3,u3⟩
     refine wpS_bind (wpS_get ?_)
     by_cases hsz3:(pendingOf st3).size>1
     ·rw[if_pos hsz3]
      have hg:(pendingOf st3)[(pendingOf st3).size-2]?=some ((pendingOf st3)[(pendingOf st3).size-2]'(by omega)):=Zuv (by omega)
      rw[hg]
      generalize (pendingOf st3)[(pendingOf st3).size-2]'(by omega)=q3 at hg
      obtain⟨a3,b3,older⟩:=q3
      dsimp only
      split
      ·exact wpS_pure ⟨rfl,S3,u3⟩
      ·refine wpS_bind (UJ C S3 (by omega) fun st4 S4 _ up4=>?_)
       rw[if_neg (by decide)]
       exact wpS_pure ⟨rfl,S4,up4 _ u3⟩
     ·rw[if_neg hsz3]
      exact wpS_pure ⟨rfl,S3,u3⟩
    ·rintro⟨o,_⟩ st3 ⟨h1,S3,u3⟩
     dsimp only at h1
     subst h1
     dsimp only
     refine wpS_bind (wpS_modify (wpS_bind (wpS_modify (wpS_pure ⟨rfl, ?_,.inl (by dsimp only;omega)⟩))))
     refine PUSH (setPending st3 _) ⟨S3.kd,S3.fl,S3.pm,S3.us, ?_,S3.le,S3.lh,S3.sp⟩ u3
     show V4 R Ok (arrOf st3) 0 ((pendingOf st3).modify _ _).toList lo
     rw[Array.toList_modify]
     exact S3.rn.mod (fun _ _ _=>⟨_,rfl⟩) _
  ·rw[if_neg e1]
   have S2:=S1'
   have u2:=u
   have PUSH:∀st3,RSt κ U R Ok X lo (lo+m) st3->Up R (arrOf st3) lo (m)->RSt κ U R Ok X (lo+(m)) (lo+(m)) (setPending st3 ((pendingOf st3).push (lo,m,0))):=fun st3 S3 u3 =>
    ⟨S3.kd,S3.fl,S3.pm,S3.us,by
     show V4 R Ok (arrOf st3) 0 ((pendingOf st3).push (lo,m,0)).toList (lo+(m))
     rw[Zu9]
     exact V4.app.mpr ⟨lo,S3.rn,rfl,by omega,⟨u3,S3.sp lo (.inl rfl)⟩,rfl⟩,by omega,ZsN _,fun e he=>S3.sp e (.inr (by omega))⟩
   refine wpS_bind (wpS_get ?_)
   cases hb:(pendingOf (setArr st1 Y)).back? with
   |none =>
    dsimp only
    exact wpS_bind (wpS_modify (wpS_pure ⟨rfl,PUSH _ S2 u2,.inl (by dsimp only;omega)⟩))
   |some q =>
    obtain⟨s1,n1,p1⟩:=q
    dsimp only
    refine wpS_bind (wpS_mono (wpS_forRange
     (I:=fun _ (c:Option Unit×Unit) (st':SortSt)=>c.1=none/\RSt κ U R Ok X lo (lo+m) st'/\Up R (arrOf st') lo (m))
     (Q:=fun(c:Option Unit×Unit) (st':SortSt)=>c.1=none/\RSt κ U R Ok X lo (lo+m) st'/\Up R (arrOf st') lo (m)) ?_ (fun c st' hc=>hc) ⟨rfl,S2,u2⟩) ?_)
    ·rintro y ⟨o,_⟩ st3 _ hy ⟨rfl,S3,u3⟩
     refine wpS_bind (wpS_get ?_)
     by_cases hsz3:(pendingOf st3).size>1
     ·rw[if_pos hsz3]
      have hg:(pendingOf st3)[(pendingOf st3).size-2]?=some ((pendingOf st3)[(pendingOf st3).size-2]'(by omega)):=Zuv (by omega)
      rw[hg]
      generalize (pendingOf st3)[(pendingOf st3).size-2]'(by omega)=q3 at hg
      obtain⟨a3,b3,older⟩:=q3
      dsimp only
      split
      ·exact wpS_pure ⟨rfl,S3,u3⟩
      ·refine wpS_bind (UJ C S3 (by omega) fun st4 S4 _ up4=>?_)
       rw[if_neg (by decide)]
       exact wpS_pure ⟨rfl,S4,up4 _ u3⟩
     ·rw[if_neg hsz3]
      exact wpS_pure ⟨rfl,S3,u3⟩
    ·rintro⟨o,_⟩ st3 ⟨h1,S3,u3⟩
     dsimp only at h1
     subst h1
     dsimp only
     refine wpS_bind (wpS_modify (wpS_bind (wpS_modify (wpS_pure ⟨rfl, ?_,.inl (by dsimp only;omega)⟩))))
     refine PUSH (setPending st3 _) ⟨S3.kd,S3.fl,S3.pm,S3.us, ?_,S3.le,S3.lh,S3.sp⟩ u3
     show V4 R Ok (arrOf st3) 0 ((pendingOf st3).modify _ _).toList lo
     rw[Array.toList_modify]
     exact S3.rn.mod (fun _ _ _=>⟨_,rfl⟩) _
 case post =>
  rintro⟨o,lo⟩ st1 ⟨h1,S1⟩
  dsimp only at h1
  subst h1
  dsimp only
  refine wpS_bind (wpS_mono (wpS_forRange
   (I:=fun x (c:Option Unit×Unit) (st':SortSt)=>c.1=none/\RSt κ U R Ok X X.size X.size st'/\((pendingOf st').size+x<=X.size\/(pendingOf st').size<=1))
   (Q:=fun(c:Option Unit×Unit) (st':SortSt)=>c.1=none/\RSt κ U R Ok X X.size X.size st'/\(pendingOf st').size<=1) ?_ ?_ ⟨rfl,S1,.inl ?_⟩) ?_)
  ·rintro x ⟨o,_⟩ st3 _ hx ⟨rfl,S3,h3⟩
   refine wpS_bind (wpS_get ?_)
   by_cases e1:(pendingOf st3).size<=1
   ·rw[if_pos e1]
    exact wpS_pure ⟨rfl,S3,e1⟩
   ·rw[if_neg e1]
    refine wpS_bind (UJ C S3 ?_ fun st4 S4 z4 _=>?_)
    ·have hp3:1<(pendingOf st3).size:=Nat.lt_of_not_le e1
     have both:∀(b:Prop) [Decidable b],(if b then (pendingOf st3).size-2-1 else (pendingOf st3).size-2)+1<(pendingOf st3).size:=fun b _=>by
      by_cases hb:b
      ·rw[if_pos hb];omega
      ·rw[if_neg hb];omega
     exact both _
    ·rw[if_neg (by decide)]
     exact wpS_pure ⟨rfl,S4,by omega⟩
  ·rintro⟨o,_⟩ st3 ⟨h1,S3,h3⟩
   have:=V4.le S3.rn
   rw[ZsP] at this
   exact⟨h1,S3,by omega⟩
  ·have:=V4.le S1.rn
   rw[ZsP] at this
   omega
  ·rintro⟨o,_⟩ st3 ⟨h1,S3,h3⟩
   dsimp only at h1
   subst h1
   refine wpS_pure (h st3 S3.fl S3.pm ?_)
   have rn:=S3.rn
   have hl:(pendingOf st3).toList.length<=1:=by rw[ZsP];exact h3
   match hL:(pendingOf st3).toList with
   |[] =>
    rw[hL] at rn
    have z:0=X.size:=rn
    intro i j _ hj
    omega
   |[(c,n,p)] =>
    rw[hL] at rn
    obtain⟨rfl,_,z1,z2⟩:=rn
    have z2:0+n=X.size:=z2
    rw[<- z2,Zt3];exact z1.1
   |_::_::_ =>
    rw[hL] at hl
    simp at hl
end
end L2
namespace L2
open PySem PySem.Spec PyProof.Rows
section
variable {prog:Program}{w:World}{A:Around}{E:Value->Shared->Prop}{s:Shared}
theorem ZiF{α:Type}{R:α->α->Prop}:∀{l:List α},l.length<2->l.Pairwise R
 |[],_=>List.Pairwise.nil
 |[_],_=>Zu8 _ _
theorem Zes{a:Addr}{vs:List Value}{n:Nat}{P:PySem.Fin->Shared->Prop}(κ:SortKind)(Rv:Value->Value->Bool)(ho:s.heap.get? a=some (seqObj "list" vs.toArray n))(hz:vs.length<=1000000)(hk:2<=vs.length->∀(s1:Shared) (Q:SortKind->Shared->Prop),(∀b o,b≠a->s.heap.get? b=some o->s1.heap.get? b=some o)->Q κ s1->wpAny (model prog w) A (keyKind' vs.toArray) Q E s1)(hc:∀(s1:Shared) x y,x∈vs->y∈vs->(∀b o,b≠a->s.heap.get? b=some o->s1.heap.get? b=some o)->∀C:Bool->Shared->Prop,C (Rv x y) s1->wpAny (model prog w) A (keyLt' κ x y) C (fun _ _=>False) s1)(asy:∀x y,x∈vs->y∈vs->Rv x y=true->Rv y x=false)(tr:∀x y z,x∈vs->y∈vs->z∈vs->Rv y x=false->Rv z y=false->Rv z x=false)(hq:∀h' c out,(∀b o,b≠a->s.heap.get? b=some o->h'.get? b=some o)->out.Perm vs->out.Pairwise (fun x y=>Rv y x=false)->h'.get? a=some (seqObj "list" (List.toArray out) c)->P (.done (.ret .none)) { s with heap:=h' }) :
  wpAny (model prog w) A (Builtin.«list.sort» ⟨[.ref a],[]⟩) P E s:=by
 have la:a<s.heap.objs.size:=Heap.lt_size ho
 have line:vs.length<=sizeLine:=JD hz
 obtain⟨e1,ho1⟩:∃c,(s.heap.update a (Obj.mapSeq fun _=>(#[]:Array Value))).get? a=some (seqObj "list" #[] c):=⟨_,get?_update_seq ho _⟩
 rw[list_sort_plain]
 refine wpAny_bind (listItems_at ho rfl (wpAny_bind (listUpdate_at ho rfl (wpAny_bind (seqEpoch_at ho1 rfl (wpAny_bind (wpAny_newTuple (wpAny_bind (wpAny_newList (wpAny_holding ?_) (Zts _))) ?_)))) ?_ (Zts _))))
 rotate_left
 ·exact line
 ·rw[ZsR];exact line
 generalize eh:((s.heap.update a (Obj.mapSeq fun _=>(#[]:Array Value))).push (seqObj "tuple" vs.toArray 0)).push (seqObj "list" #[] 0)=h3
 have k3:∀b o,b≠a->s.heap.get? b=some o->h3.get? b=some o:=fun b o nb q=>by
  subst eh
  exact Heap.get?_push_of_some _ (Heap.get?_push_of_some _ ((Heap.get?_update_ne _ _ _ _ nb).trans q))
 have a3:h3.get? a=some (seqObj "list" #[] e1):=by subst eh;exact Heap.get?_push_of_some _ (Heap.get?_push_of_some _ ho1)
 show wpAny _ _ _ P E { s with heap:=h3 }
 have fin:∀(out:List Value) (st:SortSt),(arrOf st).map (·.2)=List.toArray out->failedOf st=none->out.Perm vs->out.Pairwise (fun x y=>Rv y x=false) ->
   wpAny (model prog w) A (do
    let sorted:=(arrOf st).map (·.2)
    let touched:=(<- seqEpoch a) != e1
    Builtin.List.listUpdate (.ref a) fun _=>sorted
    if let some e:=failedOf st then rule "list.sort.comparison-raised";throw e
    if touched then rule "list.sort.modified";raiseError "ValueError" "list modified during sort"
    ret .none) P E { s with heap:=h3 }:=fun out st ho hf hl hout=>by
  dsimp only
  rw[ho,hf]
  obtain⟨c2,hc2⟩:∃c,(h3.update a (Obj.mapSeq fun _=>List.toArray out)).get? a=some (seqObj "list" (List.toArray out) c):=⟨_,get?_update_seq a3 _⟩
  refine wpAny_bind (seqEpoch_at a3 rfl (wpAny_bind (listUpdate_at a3 rfl ?_ (Zts _) ?_)))
  ·simp only[bne_self_eq_false,Bool.false_eq_true,if_false]
   exact wpAny_pure (hq _ c2 out (fun b o nb q=>(Heap.get?_update_ne _ _ _ _ nb).trans (k3 b o nb q)) hl hout hc2)
  ·show (List.toArray out).size<=_
   rw[ZsR,hl.length_eq];exact Zth line (ZuN _)
 dsimp only
 have zs:((vs.toArray.zip vs.toArray).map (·.2))=vs.toArray:=by
  apply Zuy.mp
  simp only[Zug,Array.toList_zip]
  exact List.map_snd_zip (ZsN _)
 by_cases h2:vs.length<2
 ·have e2:vs.toArray.size<2:=by rw[ZsR];exact h2
  rw[if_pos e2,if_pos e2]
  refine wpAny_bind (wpAny_pure (wpAny_bind (wpAny_pure ?_)))
  refine fin vs _ zs rfl (List.Perm.refl _) ?_
  exact ZiF h2
 ·have e2:¬vs.toArray.size<2:=by rw[ZsR];exact h2
  rw[if_neg e2,if_neg e2]
  refine wpAny_bind (hk (by omega) _ _ k3 ?_)
  have zmem:∀x∈vs.toArray.zip vs.toArray,x.1∈vs/\x.1=x.2:=fun x hx=>by
   have hx:x∈vs.zip vs:=by simpa using hx
   obtain⟨i,hi⟩:=Ztj hx
   rw[ZtF] at hi
   have e:=hi.1.symm.trans hi.2
   exact⟨ZsK hi.1,Option.some.inj e⟩
  have C:V0 prog w A { s with heap:=h3 } κ (fun x=>x.1∈vs/\x.1=x.2) (fun x y=>Rv x.1 y.1) (fun _ _=>True):=
   ⟨fun x y hx hy _ Q q=>hc _ _ _ hx.1 hy.1 k3 Q q,fun x y hx hy q=>asy _ _ hx.1 hy.1 q,fun x y z hx hy hz q r=>tr _ _ _ hx.1 hy.1 hz.1 q r⟩
  have run:=Qu (E:=E) C C ⟨fun _ _ h=>h,fun _ _ _=>rfl⟩ (st:=SortSt.mk' κ (vs.toArray.zip vs.toArray) #[] 7 none) (Q:=fun _ st'=>failedOf st'=none/\(arrOf st').Perm (vs.toArray.zip vs.toArray)/\Up (fun x y=>Rv x.1 y.1) (arrOf st') 0 (vs.toArray.zip vs.toArray).size) rfl rfl
   (fun i hi=>zmem _ (Array.mem_of_getElem? (Uc hi))) rfl (fun _ _ _ _ _ _=>trivial) (fun st' k1 k2 k3=>⟨k1,k2,k3⟩)
  refine wpAny_bind (wpAny_mono run ?_ fun _ _ e=>e)
  rintro⟨⟨⟩,st⟩ s' ⟨rfl,hf,hp,hu⟩
  dsimp only at hf hp hu
  have hsz:(arrOf st).size=(vs.toArray.zip vs.toArray).size:=hp.size_eq
  have same:∀x∈(arrOf st).toList,x.1=x.2:=fun x hx=>(zmem x ((Array.Perm.mem_iff hp).mp (by simpa using hx))).2
  refine fin ((arrOf st).toList.map (·.2)) st ?_ hf ?_ ?_
  ·apply Zuy.mp
   rw[Zug]
  ·have p1:((arrOf st).toList.map (·.2)).Perm ((vs.toArray.zip vs.toArray).toList.map (·.2)):=(Zus.mp hp).map _
   have p2:=congrArg Array.toList zs
   rw[Zug] at p2
   rw[p2] at p1
   simpa using p1
  ·have sr:=hu.srt (ZuQ (by rw[Zt3,hsz]))
   rw[Zuh,Ztn (ZuQ (by rw[ZsP,hsz]))] at sr
   rw[ZtH]
   refine List.Pairwise.imp_of_mem ?_ sr
   intro x y hx hy q
   rw[<- same x hx,<- same y hy];exact q
end
noncomputable def ZnH:Value->Int
 |.int i _=>i
 |_=>0
theorem UL:∀{ns:List Int}{us:List Value},ZY (ns.map V.int) us->us.map ZnH=ns/\∀u∈us,∃i t,u=Value.int i t
 |[],_,.nil=>⟨rfl,by simp⟩
 |n::ns,_,.cons (b:=u) r rr=>by
  obtain⟨t,rfl⟩:=r
  obtain⟨h1,h2⟩:=UL rr
  refine⟨by rw[ZsW,h1];rfl,fun v hv=>?_⟩
  rcases ZsT.mp hv with rfl|hv
  ·exact⟨n,t,rfl⟩
  ·exact h2 v hv
section
end
theorem ZbB:∀{K:W.Frag}{H:Hp}{S:Addr->Prop} (ns:List Int),Reps K H S (ns.map PV.int) (ns.map V.int)
 |_,_,_,[]=>rfl
 |_,_,_,n::ns=>⟨_,_,rfl,rfl,ZbB ns⟩
section
variable {K:W.Frag}{EX:PX->Hp->Prop}{Γ Γ1 Γ2:List Md}{ta tb:TE}{fa fb:List PV->Rr PV}
noncomputable abbrev Zn5:PV->PV->Rr PV:=oI (fun i j=>decide (0<=j)) fun i j=>.int (i/2^j.toNat)
theorem Zmd(ha:DE K EX Γ Γ1 .A ta fa)(hb:DE K EX Γ1 Γ2 .A tb fb):DE K EX Γ Γ2 .P (tOp (rI (fun _ j=>0<=j) fun i j=>.int (i/2^j.toNat)) ta tb) (fun ρ=>(fa ρ).bind fun x=>(fb ρ).bind fun y=>Zn5 x y):=Zgq (fun _ _ h=>of_decide_eq_true h) (fun _ _ _=>rfl) (fun _ _=>rfl) ha hb
theorem Zfy{i j:Int}(h1:0<=j):Zn5 (.int i) (.int j)=.ok (.int (i/2^j.toNat)):=ZbM (decide_eq_true h1)
end
noncomputable def ZkB(x:List Int):List (List Int)->List (List Int)
 |[]=>[x]
 |y::l=>if HT.Z1 y x=true then y::ZkB x l else x::y::l
noncomputable def Zc3:List (List Int)->List (List Int)
 |[]=>[]
 |x::l=>ZkB x (Zc3 l)
noncomputable abbrev UpU(l:List (List Int)):Prop:=l.Pairwise fun a b=>HT.Z1 b a=false
theorem QM(x:List Int):∀l,(ZkB x l).Perm (x::l)
 |[]=>List.Perm.refl _
 |y::l=>by
  unfold ZkB
  split
  ·exact((QM x l).cons y).trans (List.Perm.swap x y l)
  ·exact List.Perm.refl _
theorem ZP:∀l,(Zc3 l).Perm l
 |[]=>List.Perm.refl _
 |x::l=>(QM x _).trans ((ZP l).cons x)
theorem VC{a b c:List Int}(h1:HT.Z1 b a=false)(h2:HT.Z1 c b=false):HT.Z1 c a=false:=by
 cases h:HT.Z1 c a with
 |false=>rfl
 |true =>
  exfalso
  cases h3:HT.Z1 a b with
  |true=>rw[HL.Uo h h3] at h2;cases h2
  |false=>rw[HL.JN h3 h1] at h;rw[h] at h2;cases h2
theorem QG{a b:List Int}(h:HT.Z1 a b=true):HT.Z1 b a=false:=by
 cases h2:HT.Z1 b a with
 |false=>rfl
 |true=>have:=HL.Uo h h2;rw[HL.JX] at this;cases this
theorem ZfW{x:List Int}:∀{l:List (List Int)},UpU l->UpU (ZkB x l)
 |[],_=>Zu8 _ _
 |y::l,h=>by
  obtain⟨h1,h2⟩:=ZtJ.mp h
  unfold ZkB
  split
  ·rename_i e
   refine ZtJ.mpr ⟨fun z hz=>?_,ZfW h2⟩
   rcases ZsT.mp ((QM x l).mem_iff.mp hz) with rfl|hz
   ·exact QG e
   ·exact h1 z hz
  ·rename_i e
   have e:=Bool.eq_false_iff.mpr e
   refine ZtJ.mpr ⟨fun z hz=>?_,h⟩
   rcases ZsT.mp hz with rfl|hz
   ·exact e
   ·exact VC e (h1 z hz)
theorem Uh:∀l,UpU (Zc3 l)
 |[]=>List.Pairwise.nil
 |x::l=>ZfW (Uh l)
theorem Qe:∀{l m:List (List Int)},UpU l->UpU m->l.Perm m->l=m
 |[],m,_,_,p=>(List.nil_perm.mp p).symm
 |x::l,[],_,_,p=>absurd (List.perm_nil.mp p) (by simp)
 |x::l,y::m,h1,h2,p=>by
  obtain⟨a1,a2⟩:=ZtJ.mp h1
  obtain⟨b1,b2⟩:=ZtJ.mp h2
  have e:x=y:=by
   have hx:x∈y::m:=p.mem_iff.mp (by simp)
   have hy:y∈x::l:=p.mem_iff.mpr (by simp)
   rcases ZsT.mp hx with z|z
   ·exact z
   ·rcases ZsT.mp hy with z'|z'
    ·exact z'.symm
    ·exact HL.JN (b1 x z) (a1 y z')
  subst e
  rw[Qe a2 b2 (List.perm_cons _ |>.mp p)]
theorem Zjr{l m:List (List Int)}(p:l.Perm m):Zc3 l=Zc3 m:=Qe (Uh l) (Uh m) ((ZP l).trans (p.trans (ZP m).symm))
noncomputable def VH(ts:List PL2)(a:Addr):List Int:=((ts.find? fun t=>decide (t.1=a)).map (·.2)).getD []
theorem Vb{ts:List PL2}(hu:∀t∈ts,∀t'∈ts,t.1=t'.1->t.2=t'.2){t:PL2}(ht:t∈ts):VH ts t.1=t.2:=by
 unfold VH
 cases hf:ts.find? fun q=>decide (q.1=t.1) with
 |none=>exact absurd (decide_eq_true rfl) (ZuU.mp hf t ht)
 |some q =>
  have h1:=List.find?_some hf
  have h2:=List.mem_of_find?_eq_some hf
  exact hu q h2 t ht (of_decide_eq_true h1)
noncomputable def VU:Value->Addr
 |.ref a=>a
 |_=>0
theorem Zb1:∀{ts:List PL2}{us:List Value},ZY (ts.map fun t=>V.ref t.1) us->us=ts.map fun t=>Value.ref t.1
 |[],_,.nil=>rfl
 |t::ts,_,.cons r rr=>by
  have r:_=Value.ref t.1:=r
  rw[r,Zb1 rr];rfl
theorem U1:∀(ts:List PL2),ZY (ts.map fun t=>V.ref t.1) (ts.map fun t=>Value.ref t.1)
 |[]=>.nil
 |t::ts=>.cons rfl (U1 ts)
section
end
def OkU(ts:List (List Int)):Prop:=(∀t∈ts,t≠[])/\ts.length<=1000000
section
variable {K:W.Frag}{H:Hp}
theorem Zal{S:Addr->Prop}:∀{ts:List (List Int)}{vs:List V},Reps K H S (ts.map ZR) vs->∃qs:List PL2,vs=(qs.map fun t=>V.ref t.1)/\(qs.map fun t=>t.2)=ts/\∀t∈qs,SqT K H t.1 (t.2.map V.int)/\Rep K H S (ZR t.2) (V.ref t.1)
 |[],vs,h=>⟨[],h,rfl,by simp⟩
 |ns::ts,vs,h=>by
  obtain⟨v,r,rfl,h1,h2⟩:=h
  obtain⟨qs,rfl,e2,e3⟩:=Zal h2
  have h1':=h1
  obtain⟨a,ws,rfl,hn,hr⟩:=h1
  have:=V7 hr
  subst this
  refine⟨(a,ns)::qs,rfl,by rw[ZsW,e2],fun t ht=>?_⟩
  rcases ZsT.mp ht with rfl|ht
  ·exact⟨hn.sqT,h1'⟩
  ·exact e3 t ht
theorem Zfg{S:Addr->Prop}:∀{qs:List PL2},(∀t∈qs,Rep K H S (ZR t.2) (V.ref t.1))->Reps K H S ((qs.map (·.2)).map ZR) (qs.map fun t=>V.ref t.1)
 |[],_=>rfl
 |t::qs,h=>⟨_,_,rfl,h t (Zt5 ..),Zfg fun q hq=>h q (Ztk _ hq)⟩
end
end L2
namespace My
open L2
def Bs(n:Nat)(s:Int)(b:List Int):Prop:=b.length=n/\(∀x∈b,0<=x)/\b.sum=s
theorem Bs.sow{n:Nat}{s:Int}{b:List Int}(h:Bs n s b){p:Int}(h0:0<=p)(h1:p<n):Bs n s (Vz b p):=by
 obtain⟨l,nn,sm⟩:=h
 refine⟨by rw[Q3];exact l,fun x hx=>?_,by rw[ZgZ h0 (by omega) (Zga nn _)];exact sm⟩
 unfold Vz tab at hx
 obtain⟨y,hy,rfl⟩:=ZsV.mp hx
 exact Zjt nn _ y (Ztv.mp hy)
theorem ZdK:∀(n:Nat) (l:List Nat),l.Nodup->(∀x∈l,x<n)->l.length<=n:=by
 intro n
 induction n with
 |zero=>intro l _ h;cases l with
  |nil=>exact ZsN _
  |cons x l=>exact absurd (h x (by simp)) (by omega)
 |succ n ih =>
  intro l hd h
  have e:=ih (l.erase n) (hd.erase n) (fun x hx=>by
   have:=h x (List.mem_of_mem_erase hx)
   have:x≠n:=fun z=>by subst z;exact(List.Nodup.mem_erase_iff hd).mp hx |>.1 rfl
   omega)
  by_cases c:n∈l
  ·rw[List.length_erase_of_mem c] at e;omega
  ·rw[List.erase_of_not_mem c] at e;omega
theorem ZiI{a b:List Int}(hl:a.length=b.length)(hs:a.sum=b.sum)(ha:∀x∈a,0<=x)(hb:∀x∈b,0<=x)(h:HT.Z1 a b=true):ZfC a≠ZfC b:=by
 obtain⟨i,i1,i2,i3⟩:=Zn9 h
 have:=ZfB hl hs ha hb (fun z=>by rw[z] at hl;simp at hl;omega) ⟨i,by omega,i2,by omega⟩
 unfold ZfC
 rw[hl,hs]
 omega
theorem ZjQ{a b:List Int}(hl:a.length=b.length)(hs:a.sum=b.sum)(ha:∀x∈a,0<=x)(hb:∀x∈b,0<=x)(h:ZfC a=ZfC b):a=b:=by
 cases h1:HT.Z1 a b with
 |true=>exact absurd h (ZiI hl hs ha hb h1)
 |false =>
  cases h2:HT.Z1 b a with
  |true=>exact absurd h.symm (ZiI hl.symm hs.symm hb ha h2)
  |false=>exact HL.JN h1 h2
theorem Zjb{n:Nat}{s:Int}(hn:1<=n){L:List (List Int)}(nd:L.Nodup)(hL:∀x∈L,Bs n s x):L.length<=(cbN n s).toNat:=by
 have hb:∀x∈L,0<=ZfC x/\ZfC x<cbN n s:=fun x hx=>by
  obtain⟨l,nn,sm⟩:=hL x hx
  have:=ZjR (l:=x) (fun z=>by rw[z] at l;simp at l;omega) nn
  rw[l,sm] at this
  exact this
 have h:=ZdK (cbN n s).toNat (L.map fun x=>(ZfC x).toNat) (by
  rw[ZtL,ZtH]
  refine(ZtL.mp nd).imp_of_mem ?_
  intro a b ha hb' hab e
  obtain⟨l,nn,sm⟩:=hL a ha
  obtain⟨l',nn',sm'⟩:=hL b hb'
  have:=hb a ha
  have:=hb b hb'
  exact hab (ZjQ (by omega) (by omega) nn nn' (by omega))) (fun z hz=>by
  obtain⟨x,hx,rfl⟩:=ZsV.mp hz
  have:=hb x hx
  omega)
 rw[ZsI] at h
 exact h
inductive Rch(P:List Int)(b:List Int):List Int->Prop
 |refl:Rch P b b
 |step {x:List Int}{p:Int}:Rch P b x->p∈P->0<x.getD p.toNat 0->Rch P b (Vz x p)
theorem Rch.bs{P b:List Int}{n:Nat}{s:Int}(hP:∀p∈P,0<=p/\p<n)(hb:Bs n s b){x:List Int}(h:Rch P b x):Bs n s x:=by
 induction h with
 |refl=>exact hb
 |step _ hp hx ih=>exact ih.sow (hP _ hp).1 (hP _ hp).2
noncomputable def Jn(P:List Int)(x:List Int):List (Int×List Int):=(P.filter fun p=>decide (0<x.getD p.toNat 0)).map fun p=>(p,Vz x p)
theorem Jl{P x:List Int}{y:Int×List Int}:y∈Jn P x ↔ y.1∈P/\0<x.getD y.1.toNat 0/\y.2=Vz x y.1:=by
 unfold Jn
 constructor
 ·intro h
  obtain⟨p,hp,rfl⟩:=ZsV.mp h
  obtain⟨h1,h2⟩:=Zt7.mp hp
  exact⟨h1,of_decide_eq_true h2,rfl⟩
 ·rintro⟨h1,h2,h3⟩
  refine ZsV.mpr ⟨y.1,Zt7.mpr ⟨h1,decide_eq_true h2⟩, ?_⟩
  rw[<- h3]
noncomputable abbrev NB:=List (List Int)×List (List Int)×List PV
noncomputable def stB(x:List Int)(st:NB)(y:Int×List Int):NB:=if y.2∈st.2.1 then st else (st.1++[y.2],st.2.1++[y.2],st.2.2++[.tup [ZR x,.int y.1]])
noncomputable def bdB(P x:List Int)(st:NB):NB:=(Jn P x).foldl (stB x) st
noncomputable def lvB(P:List Int)(lv:List (List Int))(st:NB):NB:=lv.foldl (fun st x=>bdB P x st) st
structure Fo(R:List Int->Prop)(bs0:List (List Int))(st:NB):Prop where
 app:st.2.1=bs0++st.1
 nd:st.2.1.Nodup
 re:∀x∈st.2.1,R x
 ln:st.2.2.length=st.2.1.length
 fl:PV.flats st.2.2=true
theorem Zav:∀(xs:List PV) (y:PV),PV.flats xs=true->PV.flat y=true->PV.flats (xs++[y])=true
 |[],y,_,h=>by simp[PV.flats,h]
 |x::xs,y,h1,h2=>by
  simp only[PV.flats,Bool.and_eq_true] at h1
  simp only[Zuf,PV.flats,Bool.and_eq_true]
  exact⟨h1.1,Zav xs y h1.2 h2⟩
section
variable {R:List Int->Prop}{bs0:List (List Int)}{st:NB}
theorem Fo.one(h:Fo R bs0 st){x:List Int}{y:Int×List Int}(hy:R y.2):Fo R bs0 (stB x st y)/\(∀z∈st.2.1,z∈(stB x st y).2.1)/\y.2∈(stB x st y).2.1:=by
 unfold stB
 split
 ·rename_i c
  exact⟨h,fun z hz=>hz,c⟩
 ·rename_i c
  refine⟨⟨by simp[h.app], ?_,fun z hz=>?_,by simp[h.ln], ?_⟩,fun z hz=>by simp[hz],by simp⟩
  ·show (st.2.1++[y.2]).Nodup
   rw[List.nodup_append]
   refine⟨h.nd,by simp,fun a ha b hb e=>?_⟩
   rw[Ztf.mp hb] at e
   rw[e] at ha
   exact c ha
  ·rcases ZsO.mp hz with hz|hz
   ·exact h.re z hz
   ·rw[Ztf.mp hz];exact hy
  ·exact Zav _ _ h.fl (by simp only[PV.flat,PV.flats,JP,Bool.and_self])
theorem Fo.fold{x:List Int}:∀{L:List (Int×List Int)}{st:NB},Fo R bs0 st->(∀y∈L,R y.2)->Fo R bs0 (L.foldl (stB x) st)/\(∀z∈st.2.1,z∈(L.foldl (stB x) st).2.1)/\∀y∈L,y.2∈(L.foldl (stB x) st).2.1
 |[],st,h,_=>⟨h,fun z hz=>hz,by simp⟩
 |y::L,st,h,hL=>by
  obtain⟨a1,a2,a3⟩:=h.one (x:=x) (hL y (by simp))
  obtain⟨b1,b2,b3⟩:=Fo.fold (x:=x) (L:=L) a1 fun z hz=>hL z (by simp[hz])
  refine⟨b1,fun z hz=>b2 z (a2 z hz),fun z hz=>?_⟩
  rcases ZsT.mp hz with rfl|hz
  ·exact b2 _ a3
  ·exact b3 z hz
end
section
variable {P b:List Int}{bs0:List (List Int)}
theorem Fo.lv:∀{lv:List (List Int)}{st:NB},Fo (Rch P b) bs0 st->(∀x∈lv,Rch P b x)->Fo (Rch P b) bs0 (lvB P lv st)/\(∀z∈st.2.1,z∈(lvB P lv st).2.1)/\∀x∈lv,∀p∈P,0<x.getD p.toNat 0->Vz x p∈(lvB P lv st).2.1
 |[],st,h,_=>⟨h,fun z hz=>hz,by simp⟩
 |x::lv,st,h,hL=>by
  obtain⟨a1,a2,a3⟩:=Fo.fold (x:=x) (L:=Jn P x) h fun y hy=>by
   obtain⟨h1,h2,h3⟩:=Jl.mp hy
   rw[h3]
   exact .step (hL x (by simp)) h1 h2
  obtain⟨b1,b2,b3⟩:=Fo.lv (lv:=lv) a1 fun z hz=>hL z (by simp[hz])
  refine⟨b1,fun z hz=>b2 z (a2 z hz),fun z hz p hp hx=>?_⟩
  rcases ZsT.mp hz with rfl|hz
  ·exact b2 _ (a3 (p,Vz z p) (Jl.mpr ⟨hp,hx,rfl⟩))
  ·exact b3 z hz p hp hx
end
noncomputable def wk(P b:List Int):Nat->NB
 |0=>([b],[b],[.non])
 |i+1=>lvB P (wk P b i).1 ([],(wk P b i).2)
structure Wk(P b:List Int)(st:NB):Prop where
 nd:st.2.1.Nodup
 re:∀x∈st.2.1,Rch P b x
 sub:∀x∈st.1,x∈st.2.1
 cl:∀x∈st.2.1,x∈st.1\/∀p∈P,0<x.getD p.toNat 0->Vz x p∈st.2.1
 bg:b∈st.2.1
 ln:st.2.2.length=st.2.1.length
 fl:PV.flats st.2.2=true
theorem Zbz(P b:List Int):∀i,Wk P b (wk P b i)
 |0=>⟨by simp[wk],fun x hx=>by rw[Ztf.mp hx];exact .refl,fun x hx=>hx,fun x hx=>.inl hx,by simp[wk],rfl,rfl⟩
 |i+1=>by
  have h:=Zbz P b i
  have f0:Fo (Rch P b) (wk P b i).2.1 ([],(wk P b i).2):=⟨by simp,h.nd,h.re,h.ln,h.fl⟩
  obtain⟨a1,a2,a3⟩:=Fo.lv f0 fun x hx=>h.re x (h.sub x hx)
  show Wk P b (lvB P (wk P b i).1 ([],(wk P b i).2))
  refine⟨a1.nd,a1.re,fun x hx=>?_,fun x hx=>?_,a2 _ h.bg,a1.ln,a1.fl⟩
  ·rw[a1.app];exact ZsO.mpr (.inr hx)
  ·rw[a1.app] at hx
   rcases ZsO.mp hx with hx|hx
   ·right
    intro p hp hp0
    rcases h.cl x hx with c|c
    ·exact a3 x c p hp hp0
    ·exact a2 _ (c p hp hp0)
   ·exact .inl hx
theorem Zi1(P b:List Int)(i:Nat):(wk P b (i+1)).2.1=(wk P b i).2.1++(wk P b (i+1)).1:=by
 have h:=Zbz P b i
 have f0:Fo (Rch P b) (wk P b i).2.1 ([],(wk P b i).2):=⟨by simp,h.nd,h.re,h.ln,h.fl⟩
 exact(Fo.lv f0 fun x hx=>h.re x (h.sub x hx)).1.app
theorem Zi0(P b:List Int):∀i,(∀j,j<=i->(wk P b j).1≠[])->i+1<=(wk P b i).2.1.length
 |0,_=>by simp[wk]
 |i+1,h=>by
  have ih:=Zi0 P b i fun j hj=>h j (by omega)
  rw[Zi1,Ztw]
  have:=List.length_pos_iff.mpr (h (i+1) (ZsN _))
  omega
noncomputable def wkN(P b:List Int):Nat:=((List.range 1001).find? fun i=>(wk P b i).1.isEmpty).getD 0
structure Zcx(n:Nat)(s:Int)(P b:List Int):Prop where
 n1:1<=n
 hP:∀p∈P,0<=p/\p<n
 hb:Bs n s b
 few:cbN n s<=1000
theorem Zcx.le{n:Nat}{s:Int}{P b:List Int}(h:Zcx n s P b)(i:Nat):(wk P b i).2.1.length<=1000:=by
 have:=Zjb h.n1 (Zbz P b i).nd fun x hx=>((Zbz P b i).re x hx).bs h.hP h.hb
 have:=h.few
 omega
theorem Zcx.end{n:Nat}{s:Int}{P b:List Int}(h:Zcx n s P b):wkN P b<=1000/\(wk P b (wkN P b)).1=[]/\∀j,j<wkN P b->(wk P b j).1≠[]:=by
 have hex:∃i,i<1001/\(wk P b i).1=[]:=by
  apply Classical.byContradiction
  intro c
  have:=Zi0 P b 1000 fun j hj e=>c ⟨j,by omega,e⟩
  have:=h.le 1000
  omega
 obtain⟨t,t1,t2⟩:=hex
 unfold wkN
 cases hf:(List.range 1001).find? fun i=>(wk P b i).1.isEmpty with
 |none =>
  have:=ZuU.mp hf t (Ztv.mpr t1)
  rw[t2] at this
  exact absurd rfl this
 |some q =>
  obtain⟨q1,q2,q3⟩:=List.find?_range_eq_some.mp hf
  refine⟨by have:=Ztv.mp q2;simp only[Zuw];omega,List.isEmpty_iff.mp q1,fun j hj e=>?_⟩
  have:=q3 j hj
  simp[e] at this
noncomputable def Zao(P b:List Int):List (List Int):=(wk P b (wkN P b)).2.1
theorem Zcx.mem{n:Nat}{s:Int}{P b:List Int}(h:Zcx n s P b){x:List Int}:x∈Zao P b ↔ Rch P b x:=by
 have W:=Zbz P b (wkN P b)
 have e:=h.end.2.1
 constructor
 ·exact fun hx=>W.re x hx
 ·intro hx
  induction hx with
  |refl=>exact W.bg
  |step _ hp h0 ih =>
   rcases W.cl _ ih with c|c
   ·rw[e] at c;cases c
   ·exact c _ hp h0
theorem ZaG(P b:List Int):(Zao P b).Nodup:=(Zbz P b _).nd
noncomputable def JF(P b:List Int):List (List Int):=Zc3 (Zao P b)
theorem QW(P b:List Int):(JF P b).Nodup:=(ZP _).nodup_iff.mpr (ZaG P b)
theorem Zcx.com{n:Nat}{s:Int}{P b:List Int}(h:Zcx n s P b){x:List Int}:x∈JF P b ↔ Rch P b x:=by
 unfold JF
 rw[(ZP _).mem_iff,h.mem]
theorem Zcx.go{n:Nat}{s:Int}{P b:List Int}(h:Zcx n s P b){x:List Int}(hx:Rch P b x):Zcx n s P x:=⟨h.n1,h.hP,hx.bs h.hP h.hb,h.few⟩
noncomputable def endB(P x:List Int):Bool:=P.all fun p=>decide (x.getD p.toNat 0=0)
noncomputable def Zc(n:Nat)(l:List Int):List Int:=((List.range n).filter fun(i:Nat)=>decide ((i:Int) ∉ l)).map fun(i:Nat)=>(i:Int)
theorem Vl{n:Nat}{l:List Int}{p:Int}:p∈Zc n l ↔ (0<=p/\p<n)/\p ∉ l:=by
 unfold Zc
 constructor
 ·intro h
  obtain⟨i,hi,rfl⟩:=ZsV.mp h
  obtain⟨h1,h2⟩:=Zt7.mp hi
  have:=Ztv.mp h1
  exact⟨by omega,of_decide_eq_true h2⟩
 ·rintro⟨h1,h2⟩
  exact ZsV.mpr ⟨p.toNat,Zt7.mpr ⟨Ztv.mpr (by omega),decide_eq_true (by rw[Ztu h1.1];exact h2)⟩,by omega⟩
theorem JO(n:Nat)(l:List Int):(Zc n l).length<=n:=by
 unfold Zc
 rw[ZsI]
 exact Zth (ZtV _ _) (by simp)
noncomputable def qsB(L:List (List Int))(y:Int×List Int):List (List Int):=if y.2∈L then L else L++[y.2]
theorem ZaH{R:List Int->Prop}:∀{S:List (Int×List Int)}{L:List (List Int)},L.Nodup->(∀x∈L,R x)->(∀y∈S,R y.2)->(S.foldl qsB L).Nodup/\(∀x∈S.foldl qsB L,R x)/\(∃e,S.foldl qsB L=L++e)/\∀y∈S,y.2∈S.foldl qsB L
 |[],L,h1,h2,_=>⟨h1,h2,⟨[],by simp⟩,by simp⟩
 |y::S,L,h1,h2,h3=>by
  have hy:=h3 y (by simp)
  have hS:∀z∈S,R z.2:=fun z hz=>h3 z (by simp[hz])
  rw[Zvd]
  by_cases c:y.2∈L
  ·rw[show qsB L y=L from if_pos c]
   obtain⟨a1,a2,⟨e,a3⟩,a4⟩:=ZaH (S:=S) h1 h2 hS
   refine⟨a1,a2,⟨e,a3⟩,fun z hz=>?_⟩
   rcases ZsT.mp hz with rfl|hz
   ·rw[a3];exact ZsO.mpr (.inl c)
   ·exact a4 z hz
  ·rw[show qsB L y=L++[y.2] from if_neg c]
   have n1:(L++[y.2]).Nodup:=by
    rw[List.nodup_append]
    refine⟨h1,by simp,fun a ha b hb e=>?_⟩
    rw[Ztf.mp hb] at e
    rw[e] at ha
    exact c ha
   have n2:∀x∈L++[y.2],R x:=fun x hx=>by
    rcases ZsO.mp hx with hx|hx
    ·exact h2 x hx
    ·rw[Ztf.mp hx];exact hy
   obtain⟨a1,a2,⟨e,a3⟩,a4⟩:=ZaH (S:=S) n1 n2 hS
   refine⟨a1,a2,⟨[y.2]++e,by rw[a3,ZsS]⟩,fun z hz=>?_⟩
   rcases ZsT.mp hz with rfl|hz
   ·rw[a3];simp
   ·exact a4 z hz
section
variable {n:Nat}{s:Int}{P b:List Int} (F:Zcx n s P b)
include F
end
end My
namespace My
open PySem L2
end My
namespace My
open L2
theorem Zjd:∀{ks:List (List Key)}{xs:List PV}{k:List Key}{v:PV}{j:Nat},ks.Nodup->ks[j]?=some k->xs[j]?=some v->atK ks xs k=some v
 |[],_,_,_,_,_,h,_=>by simp at h
 |k'::ks,[],_,_,_,_,_,h=>by simp at h
 |k'::ks,x::xs,k,v,0,_,h1,h2=>by
  simp at h1 h2
  subst h1 h2
  simp[atK]
 |k'::ks,x::xs,k,v,j+1,nd,h1,h2=>by
  simp only[Zu5] at h1 h2
  obtain⟨n1,n2⟩:=ZtO.mp nd
  have:k'≠k:=fun e=>n1 (by rw[e];exact ZsK h1)
  have ih:=Zjd n2 h1 h2
  simp only[atK]
  rw[if_neg this]
  exact ih
theorem ZkS{bs:List (List Int)}(h:bs.Nodup):(bs.map tI).Nodup:=by
 rw[ZtL,ZtH]
 exact(ZtL.mp h).imp fun hab e=>hab (Zb5 e)
structure ZnV(ks:List (List Key))(vs:List PV)(N:Nat)(ys:Nat->List Int)(ps:Nat->Int):Prop where
 up:∀t,t<N->atK ks vs (tI (ys t))=some (.tup [ZR (ys (t+1)),.int (ps t)])
 last:atK ks vs (tI (ys N))=some .non
noncomputable def ZaZ(b:List Int):List Int->List Int
 |[]=>b
 |p::ps=>ZaZ (Vz b p) ps
theorem ZbO(b:List Int)(p:Int):∀ps,ZaZ b (ps++[p])=Vz (ZaZ b ps) p:=by
 intro ps
 induction ps generalizing b with
 |nil=>rfl
 |cons q ps ih=>exact ih (Vz b q)
section
variable {n:Nat}{s:Int}{P b o:List Int} (F:Zcx n s P b) (ho:Rch P b o)
include F ho
end
noncomputable abbrev DQ:=List (List Int)×List (List Int)
structure Dq(R:List Int->Prop)(M0:List (List Int))(st:DQ):Prop where
 app:st.2=M0++st.1
 nd:st.2.Nodup
 re:∀z∈st.1,R z
section
end
theorem Zc2{L:List (List Int)}(h:L.Nodup):(Zc3 L).Pairwise fun a b=>HT.Z1 a b=true:=by
 have nd:(Zc3 L).Nodup:=(ZP L).nodup_iff.mpr h
 have up:=Uh L
 generalize Zc3 L=M at nd up
 induction M with
 |nil=>exact List.Pairwise.nil
 |cons x M ih =>
  obtain⟨n1,n2⟩:=ZtO.mp nd
  obtain⟨u1,u2⟩:=ZtJ.mp up
  refine ZtJ.mpr ⟨fun y hy=>?_,ih n2 u2⟩
  cases h1:HT.Z1 x y with
  |true=>rfl
  |false=>exact absurd (HL.JN h1 (u1 y hy)) (fun e=>n1 (by rw[e];exact hy))
end My
namespace L2
open PySem PySem.Spec PyProof.Rows
noncomputable def ZeM(Rk:Value->Value->Bool)(tag:Value->Nat)(x y:Keyed):Bool:=Rk x.1 y.1 || (!(Rk y.1 x.1)&&decide (tag x.2<tag y.2))
theorem Zax{Rk:Value->Value->Bool}{tag:Value->Nat}{x y:Keyed}:ZeM Rk tag x y=false ↔ Rk x.1 y.1=false/\(Rk y.1 x.1=true\/tag y.2<=tag x.2):=by
 unfold ZeM
 cases h1:Rk x.1 y.1<;>cases h2:Rk y.1 x.1<;>simp
section
variable {prog:Program}{w:World}{A:Around}{E:Value->Shared->Prop}{s:Shared}{a kS:Addr}{e1:Nat}{vs ks:List Value}{P:PySem.Fin->Shared->Prop}
theorem Zkb(κ:SortKind)(Rk:Value->Value->Bool)(tag:Value->Nat)(ho:s.heap.get? a=some (seqObj "list" #[] e1)){ne:Nat}(hk0:s.heap.get? kS=some (seqObj "list" ks.toArray ne))(hka:kS≠a)(hz:vs.length<=1000000)(hl:ks.length=vs.length)(hk:2<=vs.length->∀(Q:SortKind->Shared->Prop),Q κ s->wpAny (model prog w) A (keyKind' ks.toArray) Q E s)(hc:∀x y,x∈ks->y∈ks->∀C:Bool->Shared->Prop,C (Rk x y) s->wpAny (model prog w) A (keyLt' κ x y) C (fun _ _=>False) s)(asy:∀x y,x∈ks->y∈ks->Rk x y=true->Rk y x=false)(tr:∀x y z,x∈ks->y∈ks->z∈ks->Rk y x=false->Rk z y=false->Rk z x=false)(ht:∀i x,vs[i]?=some x->tag x=i)(hq:∀h' c (ps:List Keyed),(∀b o,b≠a->b≠kS->s.heap.get? b=some o->h'.get? b=some o)->ps.Perm (ks.zip vs)->ps.Pairwise (fun x y=>ZeM Rk tag y x=false)->h'.get? a=some (seqObj "list" (ps.map (·.2)).toArray c)->P (.done (.ret .none)) { s with heap:=h' }) :
  wpAny (model prog w) A (ksk_end a false vs.toArray e1 (.ref kS) ks.toArray) P E s:=by
 have line:vs.length<=sizeLine:=JD hz
 have hzs:(ks.toArray.zip vs.toArray).size=vs.length:=by rw[Array.size_zip,ZsR,ZsR,hl,Nat.min_self]
 have fin:∀st:SortSt,failedOf st=none->(arrOf st).Perm (ks.toArray.zip vs.toArray)->(arrOf st).toList.Pairwise (fun x y=>ZeM Rk tag y x=false)->wpAny (model prog w) A (ksk_tail a false e1 (.ref kS) st) P E s:=fun st hf hp hs=>by
  have hsz:(arrOf st).size=vs.length:=by rw[hp.size_eq,hzs]
  have b1:=Heap.SameBut.update s.heap kS (Obj.mapSeq fun _=>(#[]:Array Value))
  have a1:(s.heap.update kS (Obj.mapSeq fun _=>(#[]:Array Value))).get? a=some (seqObj "list" #[] e1):=(b1.2 a (Ne.symm hka)).trans ho
  have b2:=Heap.SameBut.update (s.heap.update kS (Obj.mapSeq fun _=>(#[]:Array Value))) a (Obj.mapSeq fun _=>(arrOf st).map (·.2))
  obtain⟨c2,hc2⟩:∃c2,((s.heap.update kS (Obj.mapSeq fun _=>(#[]:Array Value))).update a (Obj.mapSeq fun _=>(arrOf st).map (·.2))).get? a=some (seqObj "list" ((arrOf st).map (·.2)) c2):=⟨_,get?_update_seq a1 _⟩
  unfold ksk_tail
  dsimp only
  refine wpAny_bind (listUpdate_at hk0 rfl (wpAny_bind (wpAny_letGo (wpAny_bind (seqEpoch_at a1 rfl (wpAny_bind (listUpdate_at a1 rfl ?_ (Zts _) ?_)))))) ?_ (Zts _))
  ·rw[hf]
   simp only[bne_self_eq_false,Bool.false_eq_true,if_false]
   refine wpAny_pure (hq _ c2 (arrOf st).toList (fun b o nb nk q=>(b2.2 b nb).trans ((b1.2 b nk).trans q)) ?_ hs ?_)
   ·have:=Zus.mp hp
    rwa [ksk_zip] at this
   ·rw[hc2]
    congr 1
    congr 1
    apply Zuy.mp
    rw[Zug]
  ·simp only[Bool.false_eq_true,if_false]
   rw[Array.size_map,hsz];exact Zth line (ZuN _)
  ·rw[ZsR,hl];exact line
 unfold ksk_end
 dsimp only
 simp only[Bool.false_eq_true,if_false]
 by_cases h2:vs.length<2
 ·have e2:vs.toArray.size<2:=by rw[ZsR];exact h2
  rw[if_pos e2,if_pos e2]
  refine wpAny_bind (wpAny_pure (wpAny_bind (wpAny_pure (fin _ rfl (Array.Perm.refl _) ?_))))
  show (ks.toArray.zip vs.toArray).toList.Pairwise _
  have hlen:(ks.toArray.zip vs.toArray).toList.length<2:=by rw[ZsP,hzs];exact h2
  exact ZiF hlen
 ·have e2:¬vs.toArray.size<2:=by rw[ZsR];exact h2
  rw[if_neg e2,if_neg e2]
  refine wpAny_bind (hk (by omega) _ ?_)
  have zget:∀(i:Nat) (x:Keyed),(ks.toArray.zip vs.toArray)[i]?=some x->x.1∈ks/\vs[i]?=some x.2:=fun i x hx=>by
   rw[<- Ztc,ksk_zip,ZtF] at hx
   exact⟨ZsK hx.1,hx.2⟩
  have C0:V0 prog w A s κ (fun x=>x.1∈ks) (fun x y=>Rk x.1 y.1) (fun _ _=>True):=
   ⟨fun x y hx hy _ Q q=>hc _ _ hx hy Q q,fun x y hx hy q=>asy _ _ hx hy q,fun x y z hx hy hz q r=>tr _ _ _ hx hy hz q r⟩
  have C:V0 prog w A s κ (fun x=>x.1∈ks) (ZeM Rk tag) (fun x y=>ZeM Rk tag x y=Rk x.1 y.1):=by
   refine⟨fun x y hx hy ok Q q=>hc _ _ hx hy Q (by rw[<- ok];exact q),fun x y hx hy q=>?_,fun x y z hx hy hz q r=>?_⟩
   ·rw[Zax]
    unfold ZeM at q
    simp only[Bool.or_eq_true,Bool.and_eq_true,Bool.not_eq_true',decide_eq_true_eq] at q
    rcases q with q|⟨q1,q2⟩
    ·exact⟨asy _ _ hx hy q,.inl q⟩
    ·exact⟨q1,.inr (Zul q2)⟩
   ·rw[Zax] at q r ⊢
    refine⟨tr _ _ _ hx hy hz q.1 r.1, ?_⟩
    cases h:Rk x.1 z.1 with
    |true=>exact .inl rfl
    |false =>
     have h1:=tr _ _ _ hz hx hy h q.1
     have h2:=tr _ _ _ hy hz hx r.1 h
     right
     have t1:=q.2.resolve_left (by rw[h2];simp)
     have t2:=r.2.resolve_left (by rw[h1];simp)
     exact Zth t1 t2
  have run:=Qu (E:=E) C C0 ⟨fun x y h=>by unfold ZeM;rw[h];rfl,fun _ _ h=>h⟩ (st:=SortSt.mk' κ (ks.toArray.zip vs.toArray) #[] 7 none)
   (Q:=fun _ st'=>failedOf st'=none/\(arrOf st').Perm (ks.toArray.zip vs.toArray)/\Up (ZeM Rk tag) (arrOf st') 0 (ks.toArray.zip vs.toArray).size) rfl rfl
   (fun i hi=>(zget i _ (Uc hi)).1) rfl (fun e p q hp hq hs=>by
    have hs':q<(ks.toArray.zip vs.toArray).size:=hs
    have g1:=ht _ _ (zget q _ (Uc hs')).2
    have g2:=ht _ _ (zget p _ (Uc (Nat.lt_trans (Ztb hp hq) hs'))).2
    show ZeM Rk tag (gA (ks.toArray.zip vs.toArray) q) (gA (ks.toArray.zip vs.toArray) p)=_
    unfold ZeM
    rw[g1,g2,decide_eq_false (by omega),Bool.and_false,Bool.or_false]) (fun st' k1 k2 k3=>⟨k1,k2,k3⟩)
  refine wpAny_bind (wpAny_mono run ?_ fun _ _ e=>e)
  rintro⟨⟨⟩,st⟩ s' ⟨rfl,hf,hp,hu⟩
  dsimp only at hf hp hu ⊢
  refine fin st hf hp ?_
  have sr:=hu.srt (ZuQ (by rw[Zt3,hp.size_eq]))
  rw[Zuh,Ztn (ZuQ (by rw[ZsP,hp.size_eq]))] at sr
  exact sr
theorem ZhH{f:Value}(J:List Value->Shared->Prop)(h0:J [] s)(hz:vs.length<=1000000)(turn:∀(kz:List Value) (x:Value) (s1:Shared),vs[kz.length]?=some x->J kz s1->wpAny (model prog w) A (call f [x]) (fun k s2=>∃n,s2.heap.get? kS=some (seqObj "list" kz.toArray n) /\
   ∀h' c,Heap.SameBut kS s2.heap h'->h'.get? kS=some (seqObj "list" (kz++[k]).toArray c)->J (kz++[k]) { s2 with heap:=h' }) (fun _ _=>False) s1)(fin:∀(kz:List Value) (s1:Shared),kz.length=vs.length->J kz s1->∃n,s1.heap.get? kS=some (seqObj "list" kz.toArray n)/\wpAny (model prog w) A (ksk_end a false vs.toArray e1 (.ref kS) kz.toArray) P E s1) :
  wpAny (model prog w) A (ksk_rest a f false vs.toArray e1 (.ref kS)) P E s:=by
 have line:vs.length<=sizeLine:=JD hz
 unfold ksk_rest
 refine wpAny_bind (wpAny_rule ?_)
 rw[<- Array.forIn_toList]
 refine wpAny_bind (ksk_fold (fun i s'=>∃kz:List Value,kz.length=i/\J kz s') vs 0 s ⟨[],rfl,h0⟩ (fun j x s' hx hI=>?_) fun s' hI=>?_)
 ·obtain⟨kz,hkl,hJ⟩:=hI
  rw[Zt3] at hkl
  have hj:j<vs.length:=(ZsJ.mp hx).1
  refine wpAny_bind (wpAny_attempt (wpAny_mono (turn kz x s' (by rw[hkl];exact hx) hJ) (fun k s2 hk=>?_) fun _ _ q=>q.elim))
  obtain⟨n,e,hn⟩:=hk
  dsimp only
  refine wpAny_bind (listUpdate_at e rfl ?_ (by rw[ZsR];omega) (by rw[Array.size_push,ZsR];omega))
  refine wpAny_pure ⟨rfl,kz++[k],by rw[Ztw,hkl];simp, ?_⟩
  have e2:=get?_update_seq e (fun v=>v.push k)
  have e3:kz.toArray.push k=(kz++[k]).toArray:=by simp
  rw[e3] at e2
  exact hn _ _ (Heap.SameBut.update s2.heap kS _) e2
 ·obtain⟨kz,hkl,hJ⟩:=hI
  rw[Zt3] at hkl
  obtain⟨n,e,hf⟩:=fin kz s' hkl hJ
  exact wpAny_bind (listItems_at e rfl hf)
theorem Zer{l f:Addr}{Q:Value->Shared->Prop}(hl:s.heap.IsList l vs.toArray)(hz:vs.length<=1000000)(go:∀(D kS:Addr) (e1:Nat) (h3:Heap),(∀b o,s.heap.get? b=some o->h3.get? b=some o)->s.heap.objs.size<=D->D<kS->h3.get? D=some (seqObj "list" #[] e1)->h3.get? kS=some (seqObj "list" #[] 0) ->
   wpAny (model prog w) A.in1.in1 (ksk_rest D (.ref f) false vs.toArray e1 (.ref kS)) (fun r s'=>r=.done (.ret .none)/\Q (.ref D) s') E { s with heap:=h3 }) :
  wpAny (model prog w) A (call (.builtin "sorted") [.ref l] [("key",.ref f)]) Q E s:=by
 have line:vs.length<=sizeLine:=JD hz
 refine call_function_entry_kw kind_sorted plain_sorted entry_sorted (ksk_s1 _ _) ?_
 unfold Builtin.«sorted»
 refine wpAny_bind (m:=checkCount "sorted" 1 1 _) (wpAny_pure (wpAny_bind (collect_list hl (wpAny_bind (wpAny_newList ?_ line)) line)))
 generalize eg:(s.heap.push (seqObj "list" #[] 0)).update s.heap.objs.size (Obj.mapSeq (·++vs.toArray))=h1
 have z1:h1.objs.size=s.heap.objs.size+1:=by subst eg;rw[Heap.size_update,size_push']
 have k1:∀b o,s.heap.get? b=some o->h1.get? b=some o:=fun b o q=>by
  have lb:=Heap.lt_size q
  subst eg
  rw[Heap.get?_update_ne _ _ _ _ (Ztm lb)]
  exact Heap.get?_push_of_some _ q
 have hD:(h1.push (seqObj "list" vs.toArray 0)).get? h1.objs.size=some (seqObj "list" vs.toArray 0):=Heap.get?_push_size _ rfl
 show wpAny _ _ _ _ _ { s with heap:=h1.push (seqObj "list" vs.toArray 0) }
 obtain⟨e1,ho1⟩:∃c,((h1.push (seqObj "list" vs.toArray 0)).update h1.objs.size (Obj.mapSeq fun _=>(#[]:Array Value))).get? h1.objs.size=some (seqObj "list" #[] c):=⟨_,get?_update_seq hD _⟩
 refine wpAny_bind (wpAny_holding (wpAny_call_entry_kw slot_list_sort ⟨_,hD,rfl⟩ entry_list_sort ?body (ksk_l1 _ _)))
 rw[show Builtin.«list.sort» ⟨[.ref h1.objs.size],[("key",.ref f)]⟩=ksk_tree h1.objs.size (.ref f) false from ksk_t1 f _]
 unfold ksk_tree
 refine wpAny_bind (listItems_at hD rfl (wpAny_bind (listUpdate_at hD rfl (wpAny_bind (seqEpoch_at ho1 rfl (wpAny_bind (wpAny_newTuple (wpAny_bind (wpAny_newList (wpAny_holding ?_) (Zts _))) ?_)))) ?_ (Zts _))))
 rotate_left
 ·exact line
 ·rw[ZsR];exact line
 refine wpAny_mono (go h1.objs.size _ e1 _ (fun b o q=>?_) (by rw[z1];exact ZuN _) ?_ ?_ ?_) (fun r s' ⟨e,q⟩=>?_) fun _ _ e=>e
 ·have nb:b≠h1.objs.size:=Ztm (by rw[z1];exact ZuY (Heap.lt_size q))
  exact Heap.get?_push_of_some _ (Heap.get?_push_of_some _ ((Heap.get?_update_ne _ _ _ _ nb).trans (Heap.get?_push_of_some _ (k1 b o q))))
 ·rw[size_push',Heap.size_update,size_push'];exact ZuY (ZuD _)
 ·exact Heap.get?_push_of_some _ (Heap.get?_push_of_some _ ho1)
 ·exact Heap.get?_push_size _ rfl
 ·subst e
  exact⟨_,rfl,wpAny_pure ⟨_,rfl,q⟩⟩
end
noncomputable abbrev QL:Str := "ends_first.<locals>.<lambda>"
theorem Qx{r:List Value}(hr:TriplesOk r):∀{l:List Value},TriplesOk l->TriplesOk (l++r)
 |[],_=>hr
 |.int _ _::.int _ _::c::l,h=>Qx (l:=l) hr h
theorem Zcs{pos:Pos}{r:List Value}{c:Value}:∀{l:List Value},TriplesOk l->codeAmong pos (l++r)=some c->codeAmong pos l=some c\/codeAmong pos r=some c
 |[],_,e=>.inr e
 |.int a ta::.int b tb::d::l,h,e=>by
  have e:(if a==pos.line&&b==pos.col then some d else codeAmong pos (l++r))=some c:=e
  show (if a==pos.line&&b==pos.col then some d else codeAmong pos l)=some c\/_
  split at e
  ·rename_i z;rw[if_pos z];exact .inl e
  ·rename_i z;rw[if_neg z];exact Zcs (l:=l) h e
theorem ZgD{pos p:Pos}{c d:Value}(e:codeAmong pos [rawInt p.line,rawInt p.col,c]=some d):d=c:=by
 have e:(if _ then some c else none)=some d:=e
 split at e
 ·exact(Option.some.inj e).symm
 ·cases e
noncomputable abbrev Zm3(params:Arguments)(body:Expr)(scope:Scope)(cl:List (Str×Addr))(pm:Value)(c':Addr)(ctv:Value):Obj:=PySem.W.kla_obj "<lambda>" QL params body scope cl pm c' ctv
section
variable {X:Cx}{pins:List (Addr×Obj)}{σ:St}{H:Hp}{s:Shared}{params:Arguments}{body:Expr}{scope:Scope}{pos:Pos}{f0 c P:Addr}{E:Value->Shared->Prop}{Q:Value->Shared->Prop}
theorem Zka{H':Hp}{h':Heap}{tk:Nat}(I:Inv X pins σ H s)(hP:∃ps q,H P=some (.tbl ps q))(sm:Z6 H H')(fr:∀b,H b=none->H' b≠none->s.heap.objs.size<=b)(hx:∀b o,b≠P->s.heap.get? b=some o->h'.get? b=some o)(ht:∃o,h'.get? P=some o)(ok:HOk X.prog X.w H' h'):Inv X pins σ H' { s with heap:=h',toks:=tk }:=by
 obtain⟨ps,q,hP⟩:=hP
 have np:∀{b},H b=none->b≠P:=fun {b} e z=>by rw[z,hP] at e;cases e
 refine I.call (g':=s.gens) (d':=s.drawn) (ch:=[]) ⟨fun b o e n _ _=>hx b o (np n) e,fun b o e n _ _=>⟨o.slots,hx b o (np n) e⟩,fun b o e n _=>?_,fun b o e _=>?_,fun b xs e=>sm _ _ e,fun b o u e=>sm _ _ e,fun b p q e=>sm _ _ e⟩ ok I.bare (fun b z=>absurd z (by simp))
 ·cases q:H' b with
  |none=>rfl
  |some u=>exact absurd (Heap.lt_size e) (Zvf.mpr (fr b n (by rw[q];simp)))
 ·by_cases z:b=P
  ·rw[z];exact ht
  ·exact⟨o,hx b o z e⟩
theorem ZhE(I:Inv X pins σ H s)(hT:Zcv X.K f0=some (c,P))(hcode:X.env.code=.ref c)(hqual:X.env.qual ++ "<lambda>"=QL)(hcl:closureFor scope X.env=pure (Zai scope X.env))(hdef:defaultsOf params X.env=([],[]))(h:∀(f c':Addr) (oc:Obj) (pm ctv:Value) (H':Hp) (s':Shared),Z6 H H'->Inv X pins σ H' s'->Zk8 QL oc->H' c'=some (.frz oc (.own c'))->H' f=some (.frz (Zm3 params body scope (Zai scope X.env) pm c' ctv) (.own f))->Q (.ref f) s') :
  wpAny (model X.prog X.w) X.A (eval (.Lambda params body scope pos) X.env) Q E s:=by
 refine PySem.W.kla_eval hdef ?_
 rw[hqual]
 have hg:s.heap.Ns mainGlobals X.mg:=I.ok.mod.glob.keeps I.bk
 have hP:H P=some (.tbl #[] QL):=I.base.tbls _ _ _ (I.ok.tab f0 c P hT)
 obtain⟨more,e1,t1,cs⟩:=I.hok P _ hP
 have C:PySem.W.CodeHd s.heap c P:=PySem.W.codeHd_of_K I.kIn (ZfN hT)
 have hgP:mainGlobals≠P:=fun z=>by
  obtain⟨o,es,ep,e,d,_⟩:=hg
  rw[z,e1] at e;cases e;cases d
 have hb:s.heap.BuiltinsAt X.mg P:=by
  obtain⟨bm,o,b1,b2,b3,b4,b5,b6⟩:=I.ok.mod.bmod
  refine⟨bm,o,b1,b2,fun z=>?_,fun z=>?_,I.bk _ _ b3,b4,b5,b6⟩
  ·obtain⟨o',es,ep,e,d,_⟩:=I.ok.mod.glob
   rw[z,e] at b3;cases b3;rw[d] at b6;cases b6
  ·have:=I.bk _ _ b3
   rw[z,e1] at this;cases this;cases b6
 cases hcm:codeAmong pos ((#[]:Array Value)++more).toList with
 |some cv =>
  obtain⟨c',oc,rfl,hc',hCo⟩:=cs pos cv hcm
  refine PySem.W.kla_makeFunctionHit (mg:=X.mg) hcl I.ok.glob hg hcode C e1 t1 hcm hb fun ctv h' tk hk hsz=>?_
  have hf:H h'.objs.size=none:=I.hok.fresh hsz
  refine h h'.objs.size c' oc _ ctv (upd H h'.objs.size (.frz _ (.own h'.objs.size))) _ (Z6.new hf) (I.laid (t':=tk) (fun b u e=>Heap.get?_push_of_some _ (hk b u e)) hsz ⟨Heap.get?_push_size _ rfl,_,Heap.get?_push_size _ rfl⟩) hCo ?_ Z4
  rw[Zy (ZB hc' hf)];exact hc'
 |none =>
  refine PySem.W.kla_makeFunction (mg:=X.mg) hcl I.ok.glob hg hcode C e1 t1 hcm hgP hb fun c' ctv h' tk hx hge hlt hrec htb=>?_
  obtain⟨c₂,oc,vs,t,e2,hoc,hd,hv⟩:=hrec
  cases e2
  have hc0:H c'=none:=I.hok.fresh hge
  have hf0:H h'.objs.size=none:=I.hok.fresh (Zth hge (Zul hlt))
  have hcf:c'≠h'.objs.size:=Ztm hlt
  have hf1:upd H c' (.frz oc (.own c')) h'.objs.size=none:=by rw[Zy (Ne.symm hcf)];exact hf0
  have sm:∀u,Z6 H (upd (upd H c' (.frz oc (.own c'))) h'.objs.size u):=fun u=>(Z6.new hc0).trans (Z6.new hf1)
  refine h h'.objs.size c' oc ((X.mg "__name__").getD .none) ctv (upd (upd H c' (.frz oc (.own c'))) h'.objs.size (.frz (Zm3 params body scope (Zai scope X.env) ((X.mg "__name__").getD .none) c' ctv) (.own h'.objs.size))) _ (sm _) ?_ ⟨vs,t,hd,hv⟩ ?_ Z4
  rotate_left
  ·rw[Zy hcf];exact Z4
  have push:∀{b o},h'.get? b=some o->(h'.push (Zm3 params body scope (Zai scope X.env) ((X.mg "__name__").getD .none) c' ctv)).get? b=some o:=fun e=>Heap.get?_push_of_some _ e
  refine Zka (P:=P) (h':=h'.push _) I ⟨_,_,hP⟩ (sm _) (fun b hn hn'=>?_) (fun b o nb e=>push (hx b o nb e)) ⟨_,push htb⟩ (fun b u e=>?_)
  ·by_cases z:b=h'.objs.size
   ·rw[z];exact Zth hge (Zul hlt)
   ·by_cases z':b=c'
    ·rw[z'];exact hge
    ·rw[Zy z,Zy z'] at hn';exact absurd hn hn'
  ·by_cases z:b=h'.objs.size
   ·subst z;rw[Z4] at e;cases e
    exact⟨Heap.get?_push_size _ rfl,_,Heap.get?_push_size _ rfl⟩
   ·rw[Zy z] at e
    by_cases z':b=c'
    ·subst z';rw[Z4] at e;cases e
     exact⟨push hoc,_,push hoc⟩
    ·rw[Zy z'] at e
     by_cases zP:b=P
     ·subst zP
      rw[hP] at e;cases e
      refine⟨more++#[rawInt pos.line,rawInt pos.col,.ref c'], ?_, ?_,fun pos' cv q=>?_⟩
      ·rw[push htb,ZuV]
      ·rw[<- ZuV,Zud]
       exact Qx (by trivial) t1
      ·rw[<- ZuV,Zud] at q
       rcases Zcs t1 q with q|q
       ·obtain⟨c1,o1,r1,r2,r3⟩:=cs pos' cv q
        exact⟨c1,o1,r1,sm _ _ _ r2,r3⟩
       ·have q:=ZgD q
        exact⟨c',oc,q,by rw[Zy hcf];exact Z4,vs,t,hd,hv⟩
     ·refine(I.hok b u e).stay (fun b' v hc q=>push (hx b' v (fun zz=>?_) q)) (fun b' q=>sm _ _ _ q) fun b' xs q=>sm _ _ _ q
      rcases hc with rfl|hc
      ·exact zP zz
      ·rw[zz,hP] at hc;cases hc
noncomputable abbrev ZmY(X:Cx)(scope:Scope)(f c' L:Addr):Env:=PySem.W.envX QL scope L f (.ref c') (Zai scope X.env)
noncomputable def ZhG(X:Cx)(A:Around)(scope:Scope)(N:List Str)(f c':Addr)(s₂:Shared)(H₂:Hp):Cx where
 prog:=X.prog
 w:=X.w
 K:=X.K
 mg:=X.mg
 base:=X.base
 A:=A.deeper (ZmY X scope f c' s₂.heap.objs.size)
 N:=N
 s₀:=s₂
 H₀:=H₂
 env:=ZmY X scope f c' s₂.heap.objs.size
 outer:=X.stack
 stack:=ZmY X scope f c' s₂.heap.objs.size::X.stack
 ex:=[]
 fn:=fun _=>false
 calm:=true
 pn:=[]
 xe:=fun _ _=>False
structure Zdh(X:Cx)(scope:Scope)(x:Str)(FN:List Str)(js:List Nat):Prop where
 kind:scope.kind=.function
 co:scope.isCoroutine=false
 gen:scope.isGenerator=false
 cell:∀p∈scope.names,p.2≠.cell
 loc:scope.names.lookup x=some .local
 fr:∀p∈scope.names,p.2=.free->X.env.scope.names.lookup p.1=some .cell\/X.env.scope.names.lookup p.1=some .free
 fn:∀y∈FN,scope.names.lookup y=some .free
 at_:js.map (fun j=>X.N[j]?)=FN.map some
noncomputable def ZgJ(js:List Nat)(σ:St):St:=js.map fun j=>(σ[j]?).join
theorem Vn{x:Str}{FN:List Str}{js:List Nat}(sc:Zdh X scope x FN js)(ok:X.Ok){y:Str}{c:Addr}(h:(Zai scope X.env).lookup y=some c):X.env.cells.lookup y=some c:=by
 have hm:=PySem.mem_of_lookup h
 unfold Zai at hm
 obtain⟨p,hp,e⟩:=ZsV.mp hm
 have hp':=Zt7.mp (Zva.mp hp)
 obtain⟨e1,e2⟩:=Prod.mk.inj e
 have hk:=sc.fr p hp'.1 (beq_iff_eq.mp hp'.2)
 obtain⟨c',hc'⟩:=ok.has p.1 hk
 rw[hc'] at e2
 rw[<- e1,hc']
 exact congrArg some e2
theorem ZfM{A:Around}{x:Str}{FN:List Str}{js:List Nat}{f c':Addr}{h₁:Heap}{tk:Nat}{v:V}{u:Value}(I:Inv X pins σ H s)(sc:Zdh X scope x FN js)(hd:A.handled=none)(hA:A.frames=some X.stack)(r:Jo v u)(hns:h₁.Ns s.heap.objs.size (fun y=>[(x,u)].reverse.lookup y))(hk:∀b o,s.heap.get? b=some o->h₁.get? b=some o) :
  Inv (ZhG X A scope (x::FN) f c' s H) [] (some v::ZgJ js σ) H { s with heap:=h₁,toks:=tk }:=by
 have noA:∀b:Addr,b ∉ (ZhG X A scope (x::FN) f c' s H).ex:=fun b z=>absurd (show b∈([]:List Addr) from z) (by simp)
 refine⟨⟨I.ok.mod,sc.kind,rfl,rfl,ZsN _,fun y z c h1 h2=>?_,fun y hy=>?_,fun y c hf _=>?_,fun _=>hd,Around.frames_deeper hA,.inr ⟨rfl,rfl⟩,fun b z=>absurd z (noA b),I.bs,Zth I.ok.bsz I.sz,fun b _ _=>noA b,fun b z=>absurd z (noA b),I.stack,I.stkFree,fun f c P h1=>I.base.tbls _ _ _ (I.ok.tab f c P h1)⟩,
  rfl,I.bare,Un.kept hk,⟨_,hns,fun i y w h1 h2 h3=>?_⟩,fun y c h=>?_,I.hok.fresh (ZsN _),fun y c h=>?_,fun p hp=>absurd (show p∈([]:List (Addr×Obj)) from hp) (by simp),I.hok.kept hk, ?_⟩
 ·exact I.ok.inj y z c (Vn sc I.ok h1) (Vn sc I.ok h2)
 ·have hy:scope.names.lookup y=some .cell\/scope.names.lookup y=some .free:=hy
  rcases hy with hy|hy
  ·exact absurd rfl (sc.cell _ (PySem.mem_of_lookup hy))
  ·exact Qt (X:=X) hy
 ·have hf:false=true:=hf
  cases hf
 ·cases i with
  |zero =>
   have h1:x=y:=Option.some.inj h1
   subst h1
   have h2:v=w:=Option.some.inj (Option.some.inj h2)
   subst h2
   exact⟨u,r,.inl ⟨sc.loc,by simp⟩⟩
  |succ i =>
   have h1:FN[i]?=some y:=h1
   have h2:(ZgJ js σ)[i]?=some (some w):=h2
   unfold ZgJ at h2
   rw[ZsM] at h2
   have hj:(js.map fun j=>X.N[j]?)[i]?=some (some y):=by rw[sc.at_,ZsM,h1];rfl
   rw[ZsM] at hj
   cases e:js[i]? with
   |none=>rw[e] at h2;cases h2
   |some j =>
    rw[e] at h2 hj
    have hj:X.N[j]?=some y:=Option.some.inj hj
    have h2:(σ[j]?).join=some w:=Option.some.inj h2
    have h2:σ[j]?=some (some w):=by
     cases q:σ[j]? with
     |none=>rw[q] at h2;cases h2
     |some o=>rw[q] at h2;rw[show o=some w from h2]
    have hfree:=sc.fn y (ZsK h1)
    have hvis:=sc.fr _ (PySem.mem_of_lookup hfree) rfl
    obtain⟨m,hn,hl⟩:=I.loc
    obtain⟨u',ru,hlook⟩:=hl j y w hj h2 (.inr hvis)
    obtain⟨c,hcl⟩:=Qt (X:=X) hfree
    have hcx:=Vn sc I.ok hcl
    refine⟨u',ru,.inr ⟨.inr hfree,c,hcl, ?_⟩⟩
    rcases hlook with ⟨k,_⟩|⟨k,c2,ec,hcell⟩
    ·have k':X.env.scope.names.lookup y=some .local:=k
     have hv':X.env.scope.names.lookup y=some .cell\/X.env.scope.names.lookup y=some .free:=hvis
     rw[k'] at hv'
     rcases hv' with z|z<;>cases z
    ·rw[hcx] at ec;cases ec
     obtain⟨o,ho,hdd⟩:=hcell
     exact⟨o,hk _ _ ho,hdd⟩
 ·obtain⟨v,o,ho,hdd⟩:=I.cell y c (Vn sc I.ok h)
  exact⟨v,o,hk _ _ ho,hdd⟩
 ·exact I.freeC y c (Vn sc I.ok h)
 ·have:=congrArg List.length sc.at_
  rw[ZsI,ZsI] at this
  show (some v::ZgJ js σ).length=(x::FN).length
  unfold ZgJ
  simp[this]
theorem ZhF{A:Around}{x:Str}{FN:List Str}{js:List Nat}{f c':Addr}{oc:Obj}{pm ctv:Value}{v:V}{u:Value}{te:TE}{Q:VK}(I:Inv X pins σ H s)(sc:Zdh X scope x FN js)(hd:A.handled=none)(hroom:A.depth<recursionLimit)(hA:A.frames=some X.stack)(hCo:Zk8 QL oc)(hc:H c'=some (.frz oc (.own c')))(hf:H f=some (.frz (Zm3 params body scope (Zai scope X.env) pm c' ctv) (.own f)))(hb:∀u,bindArgs (PySem.W.kla_fn "<lambda>" QL params body scope (Zai scope X.env) pm (.ref c') ctv) ⟨[u],[]⟩=pure [(x,u)])(hbody:PE (ZhG X A scope (x::FN) f c' s H) body te)(r:Jo v u)(hq:te (some v::ZgJ js σ) H Q) :
  wpAny (model X.prog X.w) A (call (.ref f) [u]) (EP X pins σ fun v H'=>Q v H'/\∀b o u,H b=some (.frz o u)->H' b=some (.frz o u)) (fun _ _=>False) s:=by
 have ho:=(I.hok f _ hf).1
 have hcd:s.heap.CodeRec (.ref c') QL:=let ⟨vs,t,h1,h2⟩:=hCo;⟨c',oc,vs,t,rfl,(I.hok c' _ hc).1,h1,h2⟩
 refine wpAny_call (PySem.W.kla_callFunE hroom ho rfl sc.co sc.gen rfl hcd ?_)
 rw[hb]
 refine wpAny_pure (wpAny_newFunctionEnv sc.cell (fun y hy=>?_) (fun h₁ hns hsb=>?_) sc.kind)
 ·have:y=(x,u):=by simpa using hy
  rw[this];exact sc.loc
 have hk:∀b o,s.heap.get? b=some o->h₁.get? b=some o:=fun b o e=>hsb.extBut b o (Ztm (Heap.lt_size e)) (Heap.get?_push_of_some _ e)
 refine⟨I.nolimit.keeps hk, ?_⟩
 have I1:=ZfM (tk:=s.toks+[(x,u)].length) (f:=f) (c':=c') I sc hd hA r hns hk
 refine PySem.W.kla_codeExpr (wpAny_mono (hbody [] _ _ H Q I1 hq) (fun u' s' h'=>?_) fun _ _ z=>z.elim)
 obtain⟨v',H',J,r',q'⟩:=h'
 exact I.after ⟨v',H',J.os,J.bare,J.base,J.hok,r',q',J.base.frzs⟩
end
noncomputable def Zir(kz:List (List Int)):List (List Int):=kz.zipIdx.map fun p=>p.1++[((p.2:Nat):Int)]
noncomputable def stK(kz:List (List Int)):List Nat:=(Zc3 (Zir kz)).map fun l=>(l.getLastD 0).toNat
theorem ZdV:∀{l:List Addr}{i:Nat}{a:Addr},l.Nodup->l[i]?=some a->l.idxOf a=i
 |[],i,a,_,h=>by simp at h
 |b::l,0,a,_,h=>by
  have h:b=a:=by simpa using h
  subst h;simp
 |b::l,i+1,a,nd,h=>by
  have h:l[i]?=some a:=by simpa using h
  obtain⟨n1,n2⟩:=ZtO.mp nd
  have hb:b≠a:=fun z=>n1 (by rw[z];exact ZsK h)
  rw[List.idxOf_cons,show (b==a)=false from beq_false_of_ne hb]
  simp only[cond_false]
  rw[ZdV n2 h]
theorem ZnK{a b c d:Int}{i j:Nat}:HT.Z1 ([a,b]++[(i:Int)]) ([c,d]++[(j:Int)])=(HT.Z1 [a,b] [c,d] || (!(HT.Z1 [c,d] [a,b])&&decide (i<j))):=by
 have e:∀(x y z u v w:Int),HT.Z1 [x,y,z] [u,v,w]=decide (x<u\/(x=u/\(y<v\/(y=v/\z<w)))):=fun x y z u v w=>by
  unfold HT.Z1 HT.Z1 HT.Z1 HT.Z1
  by_cases h1:x=u<;>by_cases h2:y=v<;>by_cases h3:z=w<;>simp[h1,h2,h3]<;>omega
 have e2:∀(x y u v:Int),HT.Z1 [x,y] [u,v]=decide (x<u\/(x=u/\y<v)):=fun x y u v=>by
  unfold HT.Z1 HT.Z1 HT.Z1
  by_cases h1:x=u<;>by_cases h2:y=v<;>simp[h1,h2]<;>omega
 rw[show ([a,b]++[(i:Int)])=[a,b,(i:Int)] from rfl,show ([c,d]++[(j:Int)])=[c,d,(j:Int)] from rfl,e,e2,e2]
 rw[Bool.eq_iff_iff]
 simp only[Bool.or_eq_true,Bool.and_eq_true,Bool.not_eq_true',decide_eq_true_eq,decide_eq_false_iff_not]
 omega
noncomputable def Zdv(te:TE)(ws:St):List V->Hp->(List V->Hp->Prop)->Prop
 |[],H,Q=>Q [] H
 |x::xs,H,Q=>te (some x::ws) H fun k H1=>Zdv te ws xs H1 fun ks H2=>Q (k::ks) H2
noncomputable def Zdt(K:W.Frag)(te:TE)(js:List Nat)(ta:TA):TE:=fun σ H Q=>ta σ H fun xs H1=>∃p,∃as:List Addr,xs=[.ref p]/\SqL K H1 p (as.map V.ref)/\as.Nodup/\as.length<=1000000 /\
 ∀H2,Z6 H1 H2->Zdv te (ZgJ js σ) (as.map V.ref) H2 fun ks H3=>∃ys:List PL2,ks=(ys.map fun t=>V.ref t.1)/\(∀t∈ys,SqT K H3 t.1 (t.2.map V.int)/\t.2.length=2)/\ys.length=as.length /\
  ∀l,H3 l=none->Q (.ref l) (upd H3 l (.lst ((stK (ys.map (·.2))).map fun i=>V.ref (as.getD i 0))))
theorem Zb2:∀{as:List Addr}{us:List Value},ZY (as.map V.ref) us->us=as.map Value.ref
 |[],_,.nil=>rfl
 |a::as,_,.cons r rr=>by
  have r:_=Value.ref a:=r
  rw[r,Zb2 rr];rfl
theorem ZbC:∀(as:List Addr),ZY (as.map V.ref) (as.map Value.ref)
 |[]=>.nil
 |a::as=>.cons rfl (ZbC as)
noncomputable def ZiP(N:List Str)(sc scope:Scope)(x:Str)(FN:List Str)(js:List Nat):Bool:=(scope.kind==.function)&&!scope.isCoroutine&&!scope.isGenerator&&(scope.names.all fun p=>!(p.2==.cell))&&(scope.names.lookup x==some .local)
 && (scope.names.all fun p=>!(p.2==.free) || sc.names.lookup p.1==some .cell || sc.names.lookup p.1==some .free)&&(FN.all fun y=>scope.names.lookup y==some .free)&&decide (js.map (fun j=>N[j]?)=FN.map some)
theorem Zdh.of{X:Cx}{N:List Str}{sc scope:Scope}{x:Str}{FN:List Str}{js:List Nat}(h:ZiP N sc scope x FN js=true)(hs:X.env.scope=sc:=by rfl)(hN:X.N=N:=by rfl):Zdh X scope x FN js:=by
 subst hs;subst hN
 unfold ZiP at h
 simp only[Bool.and_eq_true,Zt4,decide_eq_true_eq,Bool.not_eq_true',Bool.or_eq_true,beq_iff_eq,beq_eq_false_iff_ne] at h
 obtain⟨⟨⟨⟨⟨⟨⟨h1,h2⟩,h3⟩,h4⟩,h5⟩,h6⟩,h7⟩,h8⟩:=h
 refine⟨h1,h2,h3,fun p hp=>h4 p hp,h5,fun p hp e=>?_,h7,h8⟩
 rcases h6 p hp with (z|z)|z
 ·exact absurd e z
 ·exact .inl z
 ·exact .inr z
theorem Uu.lam{j k:Nat}{A:Around}{env:Env}(r:Uu k A)(h:j+3<=k):Uu j (A.in1.in1.deeper env):=((r.mono h).in1.in1).deeper env
section
variable {X:Cx}{params:Arguments}{body e:Expr}{scope:Scope}{np lpos kp pos:Pos}{f0 c P:Addr}{x:Str}{FN:List Str}{js:List Nat}{te:TE}{ta:TA}
theorem Zeu{K:W.Frag}{k:Nat}(hg:Gl X "sorted")(hm:X.mg "sorted"=none)(hv:bootBuiltins "sorted"=some (.builtin "sorted"))(ha:PA X [e] ta)(hT:Zcv K f0=some (c,P))(hcode:X.env.code=.ref c)(hqual:X.env.qual ++ "<lambda>"=QL)(sc:Zdh X scope x FN js)(hr:Uu (k+2) X.A)(hbody:∀f c' s H,PE (ZhG X X.A.in1.in1 scope (x::FN) f c' s H) body te)(hb:∀cl pm c' ctv u,bindArgs (PySem.W.kla_fn "<lambda>" QL params body scope cl pm (.ref c') ctv) ⟨[u],[]⟩=pure [(x,u)]:=by intros;rfl)(hcl:closureFor scope X.env=pure (Zai scope X.env):=by rfl)(hdef:defaultsOf params X.env=([],[]):=by rfl)(he:backTo pos (starEach [e] X.env)=(false,eval e X.env)::backTo pos (starEach [] X.env):=by rfl)(hpl:(backTo pos (starEach [e] X.env)).any (·.1)=false:=by rfl)(eK:X.K=K:=by rfl) :
  PE X (.Call (.Name "sorted" np) [e] [⟨some "key",.Lambda params body scope lpos,kp⟩] pos) (Zdt K te js ta):=by
 subst eK
 intro pins s σ H Q I h
 refine wpAny_Call_Name_kw (UX I hg hm hv ?_ (by decide) (by decide))
 refine callWith_kw (thn (ha pos pins s σ H _ I h) fun us s1 ⟨vs,H1,I1,r1,q1⟩=>?_) he hpl
 obtain⟨p,as,rfl,hS,nd,hz,q⟩:=q1
 obtain⟨u,rfl,rx⟩:=Qb r1
 cases rx
 refine kws_cons (ZhE I1 hT hcode hqual hcl hdef fun f c' oc pm ctv H2 s2 sm I2 hCo hc hf=>kws_nil ?_)
 show wpAny _ _ (call (.builtin "sorted") [.ref p] [("key",.ref f)]) _ _ s2
 have q2:=q H2 sm
 obtain⟨its,r',pl,hz'⟩:=I2.list (show SqL X.K H2 p (as.map V.ref) from hS.imp (fun z=>z.same sm) id)
 have hits:=Zb2 r'
 subst hits
 refine Zer pl.isList (by simpa using hz) fun D kS e1 h3 kk hD hDk oD okS=>?_
 have I3:Inv X pins σ H2 { s2 with heap:=h3 }:=I2.kept (t':=s2.toks) kk
 have fpD:ZgG X pins H2 D:=I2.fpOk hD (I2.hok.fresh hD)
 have hK:s2.heap.objs.size<=kS:=Zth hD (Zul hDk)
 have fpK:ZgG X pins H2 kS:=I2.fpOk hK (I2.hok.fresh hK)
 have hne:kS≠D:=ZuA hDk
 have pinned:∀{H4:Hp}{s4:Shared}{o1 o2:Obj},Inv X pins σ H4 s4->H4 D=none->H4 kS=none->s4.heap.get? D=some o1->s4.heap.get? kS=some o2->(∀v,o1.data≠.cell v)->(∀v,o2.data≠.cell v)->Inv X (pins++[(D,o1),(kS,o2)]) σ H4 s4:=fun {H4 s4 o1 o2} J n1 n2 g1 g2 d1 d2=>by
  refine J.pins_of fun pp hp=>?_
  rcases ZsO.mp hp with hp|hp
  ·exact J.pin pp (ZsL _ hp)
  ·rcases ZsT.mp hp with rfl|hp
   ·exact⟨g1,n1,fpD.2.1,fpD.2.2.1,d1⟩
   ·rw[Ztf.mp hp]
    exact⟨g2,n2,fpK.2.1,fpK.2.2.1,d2⟩
 have unpin:∀{H4:Hp}{s4:Shared}{o1 o2:Obj},Inv X (pins++[(D,o1),(kS,o2)]) σ H4 s4->Inv X pins σ H4 s4/\(s4.heap.get? D=some o1/\H4 D=none)/\s4.heap.get? kS=some o2/\H4 kS=none:=fun {H4 s4 o1 o2} J=>by
  have p1:=J.pin (D,o1) (by simp)
  have p2:=J.pin (kS,o2) (by simp)
  exact⟨J.pins_of fun pp hp=>J.pin pp (ZsL _ (ZsQ _ hp)),⟨p1.1,p1.2.1⟩,p2.1,p2.2.1⟩
 refine ZhH (J:=fun kz s4=>∃H4 vks n,Inv X (pins++[(D,seqObj "list" #[] e1),(kS,seqObj "list" kz.toArray n)]) σ H4 s4/\(∀b o u,H2 b=some (.frz o u)->H4 b=some (.frz o u))/\ZY vks kz /\
  Zdv te (ZgJ js σ) ((as.map V.ref).drop kz.length) H4 (fun ks H3=>∃ys:List PL2,vks++ks=(ys.map fun t=>V.ref t.1)/\(∀t∈ys,SqT X.K H3 t.1 (t.2.map V.int)/\t.2.length=2)/\ys.length=as.length /\
   ∀l,H3 l=none->Q (.ref l) (upd H3 l (.lst ((stK (ys.map (·.2))).map fun i=>V.ref (as.getD i 0)))))) ?_ (by simpa using hz) ?_ ?_
 ·exact⟨H2,[],0,pinned I3 fpD.1 fpK.1 oD okS (fun v z=>nomatch z) (fun v z=>nomatch z),fun _ _ _ z=>z,.nil,q2⟩
 ·rintro kz xv s4 hx ⟨H4,vks,n,I4,fz,rk,hq⟩
  obtain⟨a,ha',rfl⟩:∃a,as[kz.length]?=some a/\Value.ref a=xv:=by
   rw[ZsM] at hx
   cases z:as[kz.length]? with
   |none=>rw[z] at hx;cases hx
   |some a=>rw[z] at hx;exact⟨a,rfl,Option.some.inj hx⟩
  have hdrop:(as.map V.ref).drop kz.length=V.ref a::(as.map V.ref).drop (kz.length+1):=by
   have hlt:kz.length<(as.map V.ref).length:=by rw[ZsI];exact(ZsJ.mp ha').1
   rw[Zte hlt]
   congr 1
   rw[ZuF]
   rw[ZsJ] at ha'
   obtain⟨_,e⟩:=ha'
   rw[e]
  rw[hdrop] at hq
  have hr2:Uu k X.A.in1.in1:=hr.in1.in1
  refine wpAny_mono (ZhF I4 sc hr2.hd hr2.depth I4.ok.frames hCo (fz _ _ _ hc) (fz _ _ _ hf) (hb _ _ _ _) (hbody f c' s4 H4) (v:=V.ref a) rfl hq) (fun kv s5 h5=>?_) fun _ _ z=>z
  obtain⟨v5,H5,I5,r5,q5,fz5⟩:=h5
  obtain⟨I5',⟨gD,nD⟩,gK,nK⟩:=unpin I5
  refine⟨n,gK,fun h' cc sb g'=>⟨H5,vks++[v5],cc, ?_,fun b o u z=>fz5 _ _ _ (fz b o u z),rk.append (.cons r5 .nil), ?_⟩⟩
  ·have I6:Inv X pins σ H5 { s5 with heap:=h' }:=I5'.turned (t':=s5.toks) (it:=kS) (fun b o nb e=>(sb.2 b nb).trans e) nK fpK.2.1 fpK.2.2.2.1 fpK.2.2.2.2.1 fpK.2.2.2.2.2
   exact pinned I6 nD nK ((sb.2 D (Ne.symm hne)).trans gD) g' (fun v z=>nomatch z) (fun v z=>nomatch z)
  ·rw[show (kz++[kv]).length=kz.length+1 by simp]
   simpa[ZsS] using q5
 ·rintro kz s4 hkl ⟨H4,vks,n,I4,fz,rk,hq⟩
  obtain⟨I4',⟨gD,nD⟩,gK,nK⟩:=unpin I4
  refine⟨n,gK, ?_⟩
  rw[ZtC (by rw[ZsI] at hkl ⊢;omega)] at hq
  obtain⟨ys,ey,hy,hyl,hQ⟩:=hq
  rw[ZtS] at ey
  subst ey
  have hkz:=Zb1 rk
  subst hkz
  have tup:∀t∈ys,∃vs:List Value,ZY (t.2.map V.int) vs/\IsTup s4.heap t.1 vs.toArray:=fun t ht=>by
   obtain⟨vs,rv,pt,_⟩:=I4'.tuple (hy t ht).1
   exact⟨vs,rv,pt⟩
  have hu:∀t∈ys,∀t'∈ys,t.1=t'.1->t.2=t'.2:=fun t ht t' ht' e=>by
   obtain⟨vs,rv,ob,eo,oc,k1,od⟩:=tup t ht
   obtain⟨vs',rv',ob',eo',oc',k1',od'⟩:=tup t' ht'
   rw[e,eo'] at eo
   cases eo
   rw[od] at od'
   have e2:vs.toArray=vs'.toArray:=by injection od'
   have e3:vs=vs':=by simpa using e2
   subst e3
   rw[<- (UL rv).1,<- (UL rv').1]
  refine Zkb (tuples' true) (fun x y=>HT.Z1 (VH ys (VU x)) (VH ys (VU y))) (fun v=>as.idxOf (VU v)) gD gK hne (by simpa using hz) (by simp[hyl]) (fun h2 Q' q'=>?_) (fun x y hx hy' C q'=>?_) (fun x y _ _ h=>QG h) (fun x y z _ _ _ h1 h2=>VC h1 h2) (fun i x hx=>?_) fun h' cc ps k4 p1 p2 g'=>?_
  ·have:∀(ts:List PL2) (its:List Value),(∀t∈ts,t.2≠[]/\∃vs:List Value,ZY (t.2.map V.int) vs/\IsTup s4.heap t.1 vs.toArray)->ZY (ts.map fun t=>V.ref t.1) its->∃fs:List Value,fs.length=ts.length/\PySem.W.KatTups s4.heap its fs/\∀v∈fs,∃n t,v=Value.int n t:=by
    intro ts
    induction ts with
    |nil =>
     intro its _ rv
     cases rv
     exact⟨[],rfl,trivial,by simp⟩
    |cons t ts ih =>
     intro its ht rv
     cases rv with
     |cons rv tv =>
      obtain⟨fs,e1,e2,e3⟩:=ih _ (fun t' h'=>ht t' (Ztk _ h')) tv
      obtain⟨hne,vs,rvs,ob,eo,oc,k,od⟩:=ht t (Zt5 ..)
      obtain⟨n,ns,en⟩:=Zut hne
      rw[en] at rvs
      cases rvs with
      |cons rn tn =>
       obtain⟨tk,rfl⟩:=rn
       have rv':_=Value.ref t.1:=rv
       subst rv'
       exact⟨.int n tk::fs,by simp[e1],⟨⟨t.1,ob,_,k,rfl,eo,oc,od,rfl⟩,e2⟩,fun v hv=>(ZsT.mp hv).elim (fun z=>⟨n,tk,z⟩) (e3 v)⟩
   obtain⟨fs,e1,e2,e3⟩:=this ys _ (fun t ht=>⟨(fun z=>by have h2:=(hy t ht).2;rw[z] at h2;cases h2),tup t ht⟩) (U1 ys)
   exact PySem.W.kat_kind (T:=.type "int") e2 (by rw[e1,hyl];rw[ZsI] at h2;omega) (fun v hv=>by obtain⟨n,t,rfl⟩:=e3 v hv;exact PySem.W.Looks.of_pure rfl) rfl q'
  ·obtain⟨t,ht,rfl⟩:=ZsV.mp hx
   obtain⟨t',ht',rfl⟩:=ZsV.mp hy'
   obtain⟨vs,rv,ob,eo,oc,k1,od⟩:=tup t ht
   obtain⟨vs',rv',ob',eo',oc',k1',od'⟩:=tup t' ht'
   refine PySem.W.kat_lt eo od eo' od' (ZaX rv rv' ?_ ?_)
   ·simp
   ·rw[show VU (.ref t.1)=t.1 from rfl,show VU (.ref t'.1)=t'.1 from rfl,Vb hu ht,Vb hu ht'] at q'
    exact q'
  ·rw[ZsM] at hx
   cases z:as[i]? with
   |none=>rw[z] at hx;cases hx
   |some a =>
    rw[z] at hx
    have hx:Value.ref a=x:=Option.some.inj hx
    subst hx
    exact ZdV nd z
  ·have mem:∀y∈ps,∃t∈ys,∃i a,as[i]?=some a/\y=(Value.ref t.1,Value.ref a):=fun y hy'=>by
    have hm:=p1.mem_iff.mp hy'
    obtain⟨i,hi⟩:=Ztj hm
    rw[ZtF,ZsM,ZsM] at hi
    obtain⟨h1,h2⟩:=hi
    cases z1:ys[i]? with
    |none=>rw[z1] at h1;cases h1
    |some t =>
     cases z2:as[i]? with
     |none=>rw[z2] at h2;cases h2
     |some a =>
      rw[z1] at h1;rw[z2] at h2
      exact⟨t,ZsK z1,i,a,z2,Prod.ext (Option.some.inj h1).symm (Option.some.inj h2).symm⟩
   generalize hcmp:(fun y:Keyed=>VH ys (VU y.1)++[((as.idxOf (VU y.2):Nat):Int)])=cmp
   have up:UpU (ps.map cmp):=by
    refine ZtH.mpr (p2.imp_of_mem fun {y z} hy' hz' h=>?_)
    obtain⟨t,ht,i,a,hi,rfl⟩:=mem y hy'
    obtain⟨t',ht',i',a',hi',rfl⟩:=mem z hz'
    subst hcmp
    unfold ZeM at h
    dsimp only at h ⊢
    rw[show VU (.ref t.1)=t.1 from rfl,show VU (.ref t'.1)=t'.1 from rfl,Vb hu ht,Vb hu ht'] at h ⊢
    obtain⟨p0,p1,ep⟩:∃p0 p1,t.2=[p0,p1]:=by
     have:=(hy t ht).2
     match t.2,this with
     |[p0,p1],_=>exact⟨p0,p1,rfl⟩
    obtain⟨p0',p1',ep'⟩:∃p0 p1,t'.2=[p0,p1]:=by
     have:=(hy t' ht').2
     match t'.2,this with
     |[p0,p1],_=>exact⟨p0,p1,rfl⟩
    rw[ep,ep'] at h ⊢
    rw[ZnK]
    exact h
   have hz0:(((ys.map fun t=>Value.ref t.1).zip (as.map Value.ref)).map cmp)=Zir (ys.map (·.2)):=by
    subst hcmp
    unfold Zir
    apply Zt9
    intro i
    rw[ZsM,ZsM,List.getElem?_zipIdx,ZsM]
    cases z1:ys[i]? with
    |none =>
     have hl1:=Zt1.mp z1
     rw[Zti (by rw[ZtT,ZsI,ZsI];omega)]
     rfl
    |some t =>
     have hi:i<as.length:=by rw[<- hyl];exact(ZsJ.mp z1).1
     have z2:as[i]?=some as[i]:=ZsH hi
     rw[show ((ys.map fun t=>Value.ref t.1).zip (as.map Value.ref))[i]?=some (Value.ref t.1,Value.ref as[i]) from by
      rw[ZtF,ZsM,ZsM,z1,z2];exact⟨rfl,rfl⟩]
     simp only[Zu7,Option.some.injEq]
     rw[show VU (.ref t.1)=t.1 from rfl,Vb hu (ZsK z1),show VU (.ref as[i])=as[i] from rfl,ZdV nd z2,Zt3]
   have hs:ps.map cmp=Zc3 (Zir (ys.map (·.2))):=by
    refine Qe up (Uh _) (((p1.map cmp).trans ?_).trans (ZP _).symm)
    rw[hz0]
   have hres:((stK (ys.map (·.2))).map fun i=>V.ref (as.getD i 0))=ps.map fun y=>V.ref (VU y.2):=by
    unfold stK
    rw[<- hs,Ztd,Ztd]
    refine ZtA fun y hy'=>?_
    obtain⟨t,ht,i,a,hi,rfl⟩:=mem y hy'
    subst hcmp
    show V.ref (as.getD ((VH ys t.1++[((as.idxOf a:Nat):Int)]).getLastD 0).toNat 0)=V.ref a
    rw[Zuu,Zta,ZdV nd hi,ZsG,hi]
    rfl
   have hv:ZY ((stK (ys.map (·.2))).map fun i=>V.ref (as.getD i 0)) (ps.map (·.2)):=by
    rw[hres]
    have:=ZbC (ps.map fun y=>VU y.2)
    rw[Ztd,Ztd] at this
    have e2:ps.map (Value.ref∘fun y=>VU y.2)=ps.map (·.2):=ZtA fun y hy'=>by
     obtain⟨t,ht,i,a,hi,rfl⟩:=mem y hy'
     rfl
    rw[e2] at this
    exact this
   have I7:Inv X pins σ H4 { s4 with heap:=h' }:=I4'.turned2 (t':=s4.toks) (it:=kS) (e:=D) (fun b o n1 n2 q=>k4 b o n1 n2 q) fun b hb'=>by
    rcases hb' with rfl|rfl
    ·exact⟨nD,fpD.2.1,fpD.2.2.2.1,fpD.2.2.2.2.1,fpD.2.2.2.2.2⟩
    ·exact⟨nK,fpK.2.1,fpK.2.2.2.1,fpK.2.2.2.2.1,fpK.2.2.2.2.2⟩
   have hsD:X.s₀.heap.objs.size<=D:=Zth I2.sz hD
   have I8:=I7.adopt (D:=D) (ys:=(stK (ys.map (·.2))).map fun i=>V.ref (as.getD i 0)) (its:=ps.map (·.2)) (n:=cc) nD hsD fpD.2.1 fpD.2.2.2.2.1 fpD.2.2.2.2.2 g' hv (by
    rw[hv.length,ZsI,p1.length_eq,ZtT,ZsI,ZsI]
    exact Zth (Nat.min_le_right _ _) (JD hz))
   exact⟨rfl,.ref D,_,I8,rfl,hQ D nD⟩
end
noncomputable def ZgN(m:List PV->Rr PV)(pa pb:PV)(t:List Int):List Int:=match m [ZR t,pa,pb] with
 |.ok (.tup [.int a,.int b])=>[a,b]
 |_=>[]
def OkK(m:List PV->Rr PV)(pa pb:PV)(ts:List (List Int)):Prop:=ts.Nodup/\ts.length<=1000000/\∀t∈ts,∃a b,m [ZR t,pa,pb]=.ok (.tup [.int a,.int b])
open Classical in
noncomputable def Qm(m:List PV->Rr PV)(pa pb:PV)(xs:List PV):Rr PV:=if h:∃ts:List (List Int),xs=[.lst (ts.map ZR)]/\OkK m pa pb ts then newF ((stK (h.choose.map (ZgN m pa pb))).map fun i=>ZR (h.choose.getD i [])) else .bad
theorem ZcC{m:List PV->Rr PV}{pa pb:PV}{ts:List (List Int)}(h:OkK m pa pb ts):Qm m pa pb [.lst (ts.map ZR)]=newF ((stK (ts.map (ZgN m pa pb))).map fun i=>ZR (ts.getD i [])):=by
 have hex:∃us:List (List Int),[PV.lst (ts.map ZR)]=[.lst (us.map ZR)]/\OkK m pa pb us:=⟨ts,rfl,h⟩
 unfold Qm
 rw[dif_pos hex]
 have hs:ts.map ZR=hex.choose.map ZR:=PV.lst.inj (List.cons.inj hex.choose_spec.1).1
 have e:hex.choose=ts:=(Qw hs).symm
 rw[e]
theorem Zbp{kz:List (List Int)}{l:List Int}(h:l∈Zir kz):∃i k,kz[i]?=some k/\l=k++[((i:Nat):Int)]:=by
 unfold Zir at h
 obtain⟨⟨k,i⟩,hp,rfl⟩:=ZsV.mp h
 have:=List.mem_zipIdx_iff_getElem?.mp hp
 exact⟨i,k,this,rfl⟩
theorem Zfa{kz:List (List Int)}{i:Nat}(h:i∈stK kz):i<kz.length:=by
 unfold stK at h
 obtain⟨l,hl,rfl⟩:=ZsV.mp h
 obtain⟨j,k,hj,rfl⟩:=Zbp ((ZP _).mem_iff.mp hl)
 rw[Zuu,Zta]
 exact(ZsJ.mp hj).1
theorem ZiJ:∀{qs:List PL2},(qs.map fun t=>t.2).Nodup->(∀t∈qs,∀t'∈qs,t.1=t'.1->t.2=t'.2)->(qs.map (·.1)).Nodup
 |[],_,_=>List.nodup_nil
 |t::qs,nd,hi=>by
  rw[ZsW] at nd ⊢
  obtain⟨n1,n2⟩:=ZtO.mp nd
  refine ZtO.mpr ⟨fun z=>?_,ZiJ n2 fun a ha b hb=>hi a (Ztk _ ha) b (Ztk _ hb)⟩
  obtain⟨t',ht',e⟩:=ZsV.mp z
  exact n1 (ZsV.mpr ⟨t',ht',hi t' (Ztk _ ht') t (Zt5 ..) e⟩)
section
variable {K:W.Frag}{EX:PX->Hp->Prop}{Γ Γ':List Md}{ta:TA}{fa:List PV->Rr (List PV)}{m:List PV->Rr PV}
noncomputable abbrev teL(K:W.Frag)(m:List PV->Rr PV):TE:=Zak (spF K 3 .P W0 m) (UO (Za9 0) (UO (Za9 1) (UO (Za9 2) ZeV)))
theorem ZdR{pa pb:PV}{wa wb:V}:∀(qs:List PL2) (H2:Hp) (QQ:List V->Hp->Prop),Rep K H2 (fun _=>True) pa wa->Rep K H2 (fun _=>True) pb wb->(∀t∈qs,Rep K H2 (fun _=>True) (ZR t.2) (V.ref t.1)) ->
  (∀t∈qs,∃a b,m [ZR t.2,pa,pb]=.ok (.tup [.int a,.int b])) ->
  (∀H3 (ys:List PL2),Z6 H2 H3->ys.map (·.2)=qs.map (fun t=>ZgN m pa pb t.2)->(∀t∈ys,SqT K H3 t.1 (t.2.map V.int)/\t.2.length=2)->QQ (ys.map fun t=>V.ref t.1) H3) ->
  Zdv (teL K m) [some wa,some wb] (qs.map fun t=>V.ref t.1) H2 QQ
 |[],H2,QQ,_,_,_,_,h=>h H2 [] (Z6.refl _) rfl (by simp)
 |t::qs,H2,QQ,ra,rb,rq,hm,h=>by
  obtain⟨a,b,e⟩:=hm t (by simp)
  show teL K m (some (V.ref t.1)::[some wa,some wb]) H2 _
  refine⟨_,rfl,_,rfl,_,rfl,fun _=>True,[ZR t.2,pa,pb],⟨_,_,rfl,rq t (by simp),_,_,rfl,ra,_,_,rfl,rb,rfl⟩,rfl, ?_⟩
  rw[e]
  intro v H1 s1 r1
  obtain⟨_,p,ws,rfl,hi,hr⟩:=r1
  obtain⟨v1,r',rfl,h1,h2⟩:=hr
  obtain⟨v2,r'',rfl,h3,h4⟩:=h2
  cases h1;cases h3;cases h4
  refine ZdR qs H1 _ (ra.same s1) (rb.same s1) (fun t' ht'=>(rq t' (by simp[ht'])).same s1) (fun t' ht'=>hm t' (by simp[ht'])) fun H3 ys s3 ey hy=>?_
  have hk:ZgN m pa pb t.2=[a,b]:=by unfold ZgN;rw[e]
  refine h H3 ((p,[a,b])::ys) (s1.trans s3) (by rw[ZsW,ZsW,ey,hk]) fun t' ht'=>?_
  rcases ZsT.mp ht' with rfl|ht'
  ·exact⟨(s3.im hi).sqT,rfl⟩
  ·exact hy t' ht'
theorem ZeG{ja jb:Nat}{ma mb:Md}(ha:DAA K EX Γ Γ' ta fa)(h1:Γ'[ja]?=some ma)(hm1:ma≠.U)(h2:Γ'[jb]?=some mb)(hm2:mb≠.U) :
  DE K EX Γ Γ' .F (Zdt K (teL K m) [ja,jb] ta) (fun ρ=>(fa ρ).bind (Qm m (gv ja ρ) (gv jb ρ))):=fun B H0 H σ ρ F R Q A d=>by
 refine ha B H0 H σ ρ F R _ A (d.bind.imp (fun xs _ d vs H1 F1 s1 f1 p1 A1=>?_) fun e q=>q)
 obtain⟨wa,ea,ra⟩:=A1.getA h1 hm1
 obtain⟨wb,eb,rb⟩:=A1.getA h2 hm2
 unfold Qm at d
 split at d
 ·rename_i hex
  have hs:=hex.choose_spec
  generalize hex.choose=ts at d hs
  obtain⟨rfl,nd,hl,hk⟩:=hs
  obtain⟨g1,g2,d⟩:=Dn.newF d
  obtain⟨v,rfl,a,ws,rfl,hn,hr⟩:=VX p1
  obtain⟨qs,rfl,rfl,e3⟩:=Zal hr
  have hnd:(qs.map (·.1)).Nodup:=by
   have hinj:∀t∈qs,∀t'∈qs,t.1=t'.1->t.2=t'.2:=fun t ht t' ht' e=>by
    obtain⟨p,us,e1,i1,r1⟩:=(e3 t ht).2
    obtain⟨p',us',e1',i1',r1'⟩:=(e3 t' ht').2
    cases e1;cases e1'
    rw[e] at i1
    have h3:=i1.1.symm.trans i1'.1
    have h4:us=us':=by injection h3 with h3;injection h3
    subst h4
    have h5:=(V7 r1).symm.trans (V7 r1')
    exact Zuj (fun x y h=>by injection h) |>.mp h5
   exact ZiJ nd hinj
  refine⟨a,qs.map (·.1),rfl, ?_,hnd,by simpa using hl,fun H2 sm=>?_⟩
  ·rw[Ztd]
   exact JC (S:=fun _=>True) hn
  have hsel:ZgJ [ja,jb] σ=[some wa,some wb]:=by
   unfold ZgJ
   rw[ZsW,ZsW,Zua,ea,eb];rfl
  rw[hsel,Ztd]
  refine ZdR (pa:=gv ja ρ) (pb:=gv jb ρ) qs H2 _ (ra.same sm) (rb.same sm) (fun t ht=>(e3 t ht).2.same sm) (fun t ht=>hk _ (Zuz ht)) fun H3 ys s3 ey hy=>?_
  have eyl:ys.length=qs.length:=by
   have:=congrArg List.length ey
   rwa [ZsI,ZsI] at this
  refine⟨ys,rfl,hy,by rw[ZsI];exact eyl,fun l hz=>?_⟩
  have A3:=A1.grow (sm.trans s3)
  have hst:stK (ys.map (·.2))=stK ((qs.map fun t=>t.2).map (ZgN m (gv ja ρ) (gv jb ρ))):=by rw[ey,Ztd];rfl
  rw[hst]
  refine d _ _ ((s1.trans (sm.trans s3)).trans (Z6.new hz)) (Res.newP (S:=fun _=>True) (s1.trans (sm.trans s3)) f1 ?_ g1 A3 hz)
  have hlt:∀i∈stK ((qs.map fun t=>t.2).map (ZgN m (gv ja ρ) (gv jb ρ))),i<qs.length:=fun i hi=>by
   have:=Zfa hi
   simpa using this
  generalize stK ((qs.map fun t=>t.2).map (ZgN m (gv ja ρ) (gv jb ρ)))=is at hlt
  clear d g1 g2
  induction is with
  |nil=>exact rfl
  |cons i is ih =>
   have hi:=hlt i (by simp)
   refine⟨_,_,rfl, ?_,ih fun j hj=>hlt j (by simp[hj])⟩
   have:=((e3 qs[i] (Zux hi)).2.same (sm.trans s3))
   dsimp only
   rw[ZsG,ZsG,ZsM,ZsM,ZsH hi]
   exact this
 ·exact d.elim
end
def Zji(K:W.Frag)(f:Addr)(cdv:Value):Prop:=∃oc od fd osl,K.lookup f=some ⟨oc,od,.func fd,osl⟩/\fd.code=cdv/\fd.name = "ends_first"
noncomputable def ZlD(K:W.Frag)(ts:List Addr):Bool:=K.all fun p=>match p.2 with
 |⟨_,_,.func fd,_⟩=>if fd.name = "ends_first" then (match Zcv K p.1 with
  |some (_,P)=>ts.contains P&&(K.lookup P).isNone
  |none=>false) else true
 |_=>true
theorem ZfP{K:W.Frag}{ts:List Addr}{h:Heap}(hc:ZlD K ts=true)(ht:∀P∈ts,h.get? P=some (PySem.W.tabObj #[])):Zk7 K h:=fun f c P e=>by
 have e0:=e
 unfold Zcv at e
 split at e
 ·rename_i oc od fd osl hk
  have hm:=Zt4.mp hc _ (PySem.W.mem_of_lookupK hk)
  dsimp only at hm
  split at e
  ·rename_i hn
   rw[if_pos hn,e0] at hm
   simp only[Bool.and_eq_true,Zum] at hm
   exact⟨ht _ hm.1,Option.isNone_iff_eq_none.mp hm.2⟩
  ·cases e
 ·cases e
noncomputable def ZlC(K:W.Frag):Bool:=K.all fun p=>match p.2 with
 |⟨_,_,.func fd,_⟩=>if fd.name = "ends_first" then (Zcv K p.1).isSome else true
 |_=>true
theorem ZfO{K:W.Frag}{f:Addr}{cdv:Value}(hc:ZlC K=true)(hf:Zji K f cdv):∃c P,Zcv K f=some (c,P)/\cdv=.ref c:=by
 obtain⟨oc,od,fd,osl,hk,e1,e2⟩:=hf
 have hm:=Zt4.mp hc _ (PySem.W.mem_of_lookupK hk)
 dsimp only at hm
 rw[if_pos e2] at hm
 cases e:Zcv K f with
 |none=>rw[e] at hm;cases hm
 |some cp =>
  obtain⟨c,P⟩:=cp
  refine⟨c,P,rfl, ?_⟩
  unfold Zcv at e
  rw[hk] at e
  dsimp only at e
  rw[if_pos e2,e1] at e
  cases cdv with
  |ref c0 =>
   dsimp only at e
   split at e
   ·split at e
    ·split at e
     ·cases e;rfl
     ·cases e
    ·cases e
   ·cases e
  |_=>cases e
section
variable {P:Program}{w:World}{K:W.Frag}{mg:Str->Option Value}{base:Heap}
theorem Fun.okL{qual:Str}{st:Stmt}{f:Addr}{fd:FuncData}{N ps:List Str}{k n l:Nat}{kd:Kd}{m:List PV->Rr PV}(F:Fun K "ends_first" qual st f fd)(S:Zx N ps (Zn st))(hn:ps.length=n)(hl:N.length-n=l)(hbody:∀(cdv:Value) (A:Around) (outer:List Env) (s:Shared) (H:Hp) (E:XK),Zji K f cdv->Uu k (A.deeper (envOfC qual (Zn st) s.heap.objs.size f cdv)) ->
   ∃t g Y,Y.r=kd/\PSs (Zip CX0 P w K mg base N qual (Zn st) f cdv A outer s H E).nox (Vd st) t/\DS K X0 (List.replicate n .S++List.replicate l .U) Y t g/\∀xs,Ref (m xs) (g (xs++List.replicate l .non)).out)(hkN:kd≠.N:=by nofun)(hkM:kd≠.M:=by nofun) :
  JB P w K mg base CX0 (k+1) f fd ps (spF K n kd W0 m):=by
 obtain⟨oc,od,kV,doc,pm,an,cdv,ct,osl,rfl,lk,hcd⟩:=F.ex
 refine ZlT lk hcd S (fun vs H Q E h=>?_) (fun A outer s H vs Q E hr h=>?_)
 ·obtain⟨B,xs,h1,h2,_⟩:=h
  rw[h1.length,h2,hn]
 ·obtain⟨B,xs,h1,h2,dn⟩:=h
  obtain⟨t,g,Y,hY,ht,hd,href⟩:=hbody cdv A outer s H E ⟨_,_,_,_,lk,rfl,rfl⟩ hr
  refine⟨t,ht.nox, ?_⟩
  have A0:=Ag.init (n:=l) h1
  have est:Uy N vs=vs.map some++List.replicate l none:=by
   unfold Uy
   rw[h1.length,h2,hl]
  rw[est]
  rw[h2] at A0
  refine hd _ H H _ _ _ _ A0 ?_
  have hdn:Dn (g (xs++List.replicate l .non)).out (fun x=>∀v H',Z6 H H'->Zjf K B H kd x v H'->Q v H') (fun e=>∀H',Z6 H H'->W0 e E H'):=by
   rcases href xs with e|e
   ·rw[e] at dn;exact dn.elim
   ·rw[<- e];exact dn
  have retK:∀{x v H'},Zjf K (fun a=>B a\/H a=none) H kd x v H'->Zjf K B H kd x v H':=fun {x v H'} h=>by
   cases kd with
   |P=>exact h
   |F=>exact h
   |T=>exact Rep.mono (fun a us s r=>⟨r,s.elim id .inr⟩) (fun a us r=>r) h
   |Z=>exact Rep.mono (fun a us s r=>⟨r,s.elim id .inr⟩) (fun a us r=>r) h
   |A=>exact Rep.mono (fun a us s r=>⟨r,s.elim id .inr⟩) (fun a us r=>r) h
   |N=>exact h
   |M=>exact h
  cases e:g (xs++List.replicate l .non) with
  |next ρ =>
   rw[e] at hdn
   refine fun σ' H' F' fr A'=>hdn .non H' A'.same ?_
   cases kd with
   |P=>exact⟨rfl,rfl⟩
   |F=>exact⟨[],⟨rfl,rfl⟩,by simp⟩
   |T=>exact rfl
   |Z=>exact rfl
   |A=>exact rfl
   |N=>exact absurd rfl hkN
   |M=>exact absurd rfl hkM
  |ret x=>rw[e] at hdn;exact fun v H' s r=>hdn v H' s (retK (hY▸r))
  |exc q=>rw[e] at hdn;exact fun H' s=>hdn H' s
  |brk ρ=>rw[e] at hdn;exact hdn.elim
  |cont ρ=>rw[e] at hdn;exact hdn.elim
  |bad=>rw[e] at hdn;exact hdn.elim
end
theorem Zg0(kz:List (List Int)):(stK kz).Perm (List.range kz.length):=by
 unfold stK
 refine((ZP (Zir kz)).map _).trans (List.Perm.of_eq ?_)
 unfold Zir
 rw[Ztd]
 apply Zt9
 intro i
 rw[ZsM,List.getElem?_zipIdx]
 by_cases hi:i<kz.length
 ·rw[ZsH hi,Zt6 hi]
  simp only[Zu7,Function.comp,Option.some.injEq]
  rw[Zuu];omega
 ·rw[Zti (by omega),Zti (by simpa using hi)]
  rfl
theorem Vc{α:Type}(ts:List α)(d:α):(List.range ts.length).map (fun i=>ts.getD i d)=ts:=by
 apply Zt9
 intro i
 rw[ZsM]
 by_cases hi:i<ts.length
 ·rw[Zt6 hi,ZsH hi,Zu7,ZsG,ZsH hi];rfl
 ·rw[Zti (by simpa using hi),Zti (by omega)];rfl
theorem ZgY{α:Type}{ts:List α}{d:α}{kz:List (List Int)}(h:kz.length=ts.length):((stK kz).map fun i=>ts.getD i d).Perm ts:=by
 refine((Zg0 kz).map _).trans (List.Perm.of_eq ?_)
 rw[h,Vc]
theorem ZjY{k k':List Int}{a b:Int}(hl:k.length=k'.length)(h:HT.Z1 (k++[a]) (k'++[b])=false):HT.Z1 k k'=false:=by
 induction k generalizing k' with
 |nil =>
  cases k' with
  |nil=>rfl
  |cons y k'=>simp at hl
 |cons x k ih =>
  cases k' with
  |nil=>simp at hl
  |cons y k' =>
   have hl:k.length=k'.length:=by simpa using hl
   rw[Zuf,Zuf] at h
   unfold HT.Z1 at h ⊢
   by_cases hx:x=y
   ·simp only[hx,if_true] at h ⊢
    first|exact ih hl h|simp_all
   ·simp only[hx,if_false] at h ⊢
    first|exact h|simp_all
theorem ZkX{kz:List (List Int)}(h2:∀k∈kz,k.length=2):((stK kz).map fun i=>kz.getD i []).Pairwise fun x y=>HT.Z1 y x=false:=by
 have hu:=Uh (Zir kz)
 unfold stK
 rw[Ztd,ZtH]
 refine hu.imp_of_mem fun {x y} hx hy h=>?_
 obtain⟨i,k,hi,rfl⟩:=Zbp ((ZP _).mem_iff.mp hx)
 obtain⟨j,k',hj,rfl⟩:=Zbp ((ZP _).mem_iff.mp hy)
 simp only[Function.comp,Zuu,Zta]
 rw[ZsG,ZsG,hi,hj]
 show HT.Z1 k' k=false
 exact ZjY (by rw[h2 _ (ZsK hi),h2 _ (ZsK hj)]) h
theorem Zh8(a d:Value):argsOk "max" ⟨[a],[("default",d)]⟩:=by unfold argsOk;kernel_rfl
theorem Qo:(toString "max" ++ toString ".loop":String) = "max.loop":=by decide
section
variable {prog:Program}{w:World}{A:Around}{R:Result->Shared->Prop}{I S:Addr}{fp wr:List Addr}{n:Nat}{P:Nat->Value->Prop}{St:Nat->Heap->Prop}{d:Value}
def Zns(bt:Nat->Nat->Bool)(P:Nat->Value->Prop)(j:Nat)(xs:Array Value):Prop:=(j=0/\xs=#[])\/∃i v,j=i+1/\P (argBest bt i) v/\xs=#[v,v]
theorem Zh6(W:Walks prog w A.in1 I fp wr n P St)(bt:Nat->Nat->Bool)(hc:CmpOf prog w A.in1 .Gt P bt)(hS:S ∉ fp):∀(m j:Nat) (s:Shared) (xs:Array Value) (c:Nat),n=j+m->St j s.heap->Zns bt P j xs ->
  s.heap.get? S=some { cls:=.type "list",dict:=none,data:=.seq xs c,slots:=#[] } ->
  (∀v h' tk,(n=0/\v=d\/∃i,n=i+1/\P (argBest bt i) v)->(∀b o,b ∉ wr->b≠S->s.heap.get? b=some o->h'.get? b=some o)->R (.ok (.ret v)) { s with heap:=h',toks:=tk }) ->
  codeAny (model prog w) A (.builtin "max.loop" ⟨[.ref I,.none,.ref S],[("default",d)]⟩) R s:=by
 have sw:S ∉ wr:=fun z=>hS (W.sub _ z)
 intro m
 induction m with
 |zero =>
  intro j s xs c hn st hb so hR
  refine codeAny_builtin F.entry_max_loop (by
   rw[Around.under_plainId F.plain_max_loop _]
   refine wpAny_bind (m:=seqItems? (.ref S)) (wpAny_seqItems so rfl (wpAny_bind (m:=tryCatch (pyNext (.ref I)) _) (wpAny_tryCatch (W.done s _ _ (by rw[hn];exact st) fun h1 tk1 k1=>?_))))
   have so1:=k1 S _ sw so
   rcases hb with ⟨rfl,rfl⟩|⟨i,v,rfl,pv,rfl⟩
   ·exact wpAny_bind (m:=rule _) (wpAny_rule (wpAny_pure (hR d h1 tk1 (.inl ⟨by omega,rfl⟩) fun b o nb _ e=>k1 b o nb e)))
   ·refine wpAny_bind (m:=updateSeq S fun _=>#[]) (wpAny_updateSeq so1 rfl (wpAny_bind (wpAny_letGo (wpAny_pure (hR v _ tk1 (.inr ⟨i,by omega,pv⟩) fun b o nb nS e=>?_)))))
    exact(Heap.get?_update_other _ _ (Ne.symm nS)).trans (k1 b o nb e))
 |succ m ih =>
  intro j s xs c hn st hb so hR
  refine codeAny_builtin F.entry_max_loop (by
   rw[Around.under_plainId F.plain_max_loop _]
   refine wpAny_bind (m:=seqItems? (.ref S)) (wpAny_seqItems so rfl (wpAny_bind (m:=tryCatch (pyNext (.ref I)) _) (wpAny_tryCatch (W.item j s _ _ (by omega) st fun v h1 tk1 pv st1 k1=>?_))))
   have so1:=k1 S _ sw so
   have away:∀(f:Obj->Obj) b,b∈fp->∀o,h1.get? b=some o->(h1.update S f).get? b=some o:=fun f b hb o e=>(Heap.get?_update_other _ _ (fun z:S=b=>hS (by rw[z];exact hb))).trans e
   rcases hb with ⟨rfl,rfl⟩|⟨i,vb,rfl,pb,rfl⟩
   ·refine wpAny_bind (m:=updateSeq S fun _=>#[v,v]) (wpAny_updateSeq so1 rfl ?_)
    rw[Qo]
    exact wpAny_pure ⟨plainId_quiet F.plain_max_loop _,ih 1 _ _ _ (by omega) (W.frame _ _ _ st1 (away _)) (.inr ⟨0,v,rfl,pv,rfl⟩) (Heap.get?_update_self _ so1 rfl) fun v2 h2 tk2 p2 k2=>hR v2 h2 tk2 p2 fun b o nb nS e=>k2 b o nb nS ((Heap.get?_update_other _ _ (Ne.symm nS)).trans (k1 b o nb e))⟩
   ·refine wpAny_bind (m:=tryCatch (holding [v,v] (richCompare .Gt v vb >>= _)) _) (wpAny_tryCatch ?_)
    refine wpAny_holding (wpAny_bind (hc (i+1) (argBest bt i) v vb _ _ _ pv pb ?_))
    refine wpAny_bind (wpAny_holding (wpAny_truthy_bool (wpAny_bind (wpAny_letGo (wpAny_pure ?_)))))
    cases hbt:bt (i+1) (argBest bt i) with
    |true =>
     rw[if_pos rfl]
     refine wpAny_bind (m:=updateSeq S fun _=>#[v,v]) (wpAny_updateSeq so1 rfl (wpAny_bind (wpAny_letGo ?_)))
     rw[Qo]
     exact wpAny_pure ⟨plainId_quiet F.plain_max_loop _,ih (i+2) _ _ _ (by omega) (W.frame _ _ _ st1 (away _)) (.inr ⟨i+1,v,rfl,by simp only[argBest,hbt,if_true];exact pv,rfl⟩) (Heap.get?_update_self _ so1 rfl) fun v2 h2 tk2 p2 k2=>hR v2 h2 tk2 p2 fun b o nb nS e=>k2 b o nb nS ((Heap.get?_update_other _ _ (Ne.symm nS)).trans (k1 b o nb e))⟩
    |false =>
     rw[if_neg (by simp)]
     refine wpAny_bind (wpAny_letGo ?_)
     rw[Qo]
     exact wpAny_pure ⟨plainId_quiet F.plain_max_loop _,ih (i+2) _ _ c (by omega) st1 (.inr ⟨i+1,vb,rfl,by simp only[argBest,hbt,Bool.false_eq_true,if_false];exact pb,rfl⟩) so1 fun v2 h2 tk2 p2 k2=>hR v2 h2 tk2 p2 fun b o nb nS e=>k2 b o nb nS (k1 b o nb e)⟩)
variable {E:Value->Shared->Prop}{s:Shared}{l:Addr}{zs:Array (Int×Tok)}
theorem Zh7{Q:Value->Shared->Prop}(hh:A.handled=none)(hl:s.heap.IsList l (intItems zs))(h:∀v h' tk,(zs.size=0/\v=d\/∃i,zs.size=i+1/\(intItems zs)[argBest (fun i j=>decide (numAt zs i>numAt zs j)) i]?=some v)->(∀b o,s.heap.get? b=some o->h'.get? b=some o)->Q v { s with heap:=h',toks:=tk }) :
  wpAny (model prog w) A (call (.builtin "max") [.ref l] [("default",d)]) Q E s:=by
 refine wpAny_call (codeAny_call_builtin F.plain_max F.entry_max ?_)
 have hsz:(intItems zs).size=zs.size:=by simp[intItems]
 have go:wpAny (model prog w) A.in1 (Builtin.«max» ⟨[.ref l],[("default",d)]⟩) (fun fi s2=>match fi with
   |.done g=>(match (Except.ok g:Result) with|.ok (.ret u)=>Q u s2|.ok _=>False|.error x=>E x s2)
   |.again g=>g.quiet=true/\codeAny (model prog w) A g (fun r s3=>match r with|.ok (.ret u)=>Q u s3|.ok _=>False|.error x=>E x s3) s2) E s:=by
  refine wpAny_bind (m:=Builtin.Builtins.bindParams "max" ["key", "default"] 0 ⟨[],[("default",d)]⟩) (wpAny_of_eq (show Builtin.Builtins.bindParams "max" ["key", "default"] 0 ⟨[],[("default",d)]⟩=pure [none,some d] from rfl) (wpAny_bind (wpAny_pure (wpAny_bind (iter_intList hl fun s2 e st hf hne=>wpAny_bind (wpAny_newObj_type ?_))))))
  subst e
  rw[Qo]
  refine wpAny_pure ⟨plainId_quiet F.plain_max_loop _,Zh6 (W:=Walks.list (A:=A.in1) hh _ l hne (intItems zs)) _ (CmpOf.ints_gt (numAt zs) fun _ _=>intItems_at) (fun z=>ZtG _ (hf _ z)) (intItems zs).size 0 _ _ _ (Zt3 _).symm ?_ (.inl ⟨rfl,rfl⟩) (Heap.get?_push_size _ rfl) fun v h' tk hv hk=>h v h' tk ?_ fun b o e=>?_⟩
  ·exact(Walks.list (A:=A.in1) (prog:=prog) (w:=w) hh _ l hne (intItems zs)).frame 0 _ _ st fun b _ o e=>Heap.get?_push_of_some _ e
  ·rw[hsz] at hv;exact hv
  ·have n1:b ∉ [s.heap.objs.size]:=fun z=>ZtG s.heap.objs.size (by have:=Heap.lt_size e;rw[Ztf.mp z] at this;exact this)
   exact hk b o n1 (Ztm (Heap.lt_size (Heap.get?_push_of_some _ e))) (Heap.get?_push_of_some _ (Heap.get?_push_of_some _ e))
 simp only[checkBuiltinCall,F.kind_max]
 cases hsig:Manifest.signature? "max" with
 |none=>exact wpAny_pure go
 |some sig =>
  have ha':Bind.checkArgs "max" sig ⟨[.ref l],[("default",d)]⟩=pure ():=by simpa only[argsOk,hsig] using Zh8 (.ref l) d
  simp only[ha']
  first|exact go|exact wpAny_pure go|exact wpAny_bind (wpAny_pure go)
end
section
variable {X:Cx}{e:Expr}{ta:TE}{np kp pos:Pos}
noncomputable def ZkR(K:W.Frag)(i0:Int)(ta:TA):TE:=fun σ H Q=>ta σ H fun xs H1=>∃p,∃ns:List Int,xs=[.ref p]/\SqL K H1 p (ns.map V.int)/\∀m,(ns=[]->m=i0)->(ns≠[]->m∈ns/\∀a∈ns,a<=m)->Q (.int m) H1
theorem ZjA{K:W.Frag}{i0:Int}{ta:TA}(hc:X.calm=true)(hg:Gl X "max")(hm:X.mg "max"=none)(hv:bootBuiltins "max"=some (.builtin "max"))(ha:PA X [e] ta)(hd:PE X d0 (tC (.int i0)))(he:backTo pos (starEach [e] X.env)=(false,eval e X.env)::backTo pos (starEach [] X.env):=by rfl)(hpl:(backTo pos (starEach [e] X.env)).any (·.1)=false:=by rfl)(eK:X.K=K:=by rfl) :
  PE X (.Call (.Name "max" np) [e] [⟨some "default",d0,kp⟩] pos) (ZkR K i0 ta):=by
 subst eK
 intro pins s σ H Q I h
 refine wpAny_Call_Name_kw (UX I hg hm hv ?_ (by decide) (by decide))
 refine callWith_kw (thn (ha pos pins s σ H _ I h) fun us s1 ⟨vs,H1,I1,r1,q1⟩=>?_) he hpl
 obtain⟨p,ns,rfl,hS,q⟩:=q1
 obtain⟨u,rfl,rx⟩:=Qb r1
 cases rx
 refine kws_cons (thn (hd pins s1 σ H1 (fun v H'=>v=.int i0/\H'=H1) I1 ⟨rfl,rfl⟩) fun du s2 ⟨dv,H2,I2,r2,q2⟩=>kws_nil ?_)
 obtain⟨rfl,rfl⟩:=q2
 obtain⟨t2,rfl⟩:=r2
 show wpAny _ _ (call (.builtin "max") [.ref p] [("default",Value.int i0 t2)]) _ _ s2
 obtain⟨its,r',pl,hz⟩:=I2.list hS
 have hi:IntsAre its ns:=VR r'
 obtain⟨zs,e⟩:=hi.allInts.items
 have hns:ns=zs.toList.map (·.1):=by rw[<- hi.numsOf,<- nums_intItems,<- e]
 have hl:=pl.isList
 rw[e] at hl
 refine Zh7 (I2.ok.hd hc) hl fun v h' tk hv hk=>?_
 rcases hv with ⟨z0,rfl⟩|⟨i,z1,hv⟩
 ·have n0:ns=[]:=by
   rw[hns]
   have:zs.toList.length=0:=by rw[ZsP];exact z0
   rw[List.length_eq_zero_iff.mp this];rfl
  exact⟨.int i0,H2,I2.kept hk,⟨_,rfl⟩,q _ (fun _=>rfl) fun z=>absurd n0 z⟩
 ·obtain⟨t,rfl⟩:=intItems_at hv
  obtain⟨h1,h2⟩:=argBest_gt (numAt zs) i
  have n1:ns≠[]:=fun z=>by
   have:=congrArg List.length (hns.symm.trans z)
   rw[ZsI,ZsP,z1] at this
   simp at this
  refine⟨.int _,H2,I2.kept hk,⟨_,rfl⟩,q _ (fun z=>absurd z n1) fun _=>⟨?_,fun a ha=>?_⟩⟩
  ·rw[hns,numAt_eq];exact getD_mem (by rw[ZsI,ZsP];omega)
  ·rw[hns] at ha
   obtain⟨j,hj,rfl⟩:=Zh9 ha
   rw[ZsI,ZsP] at hj
   rw[<- numAt_eq];exact h2 j (by omega)
end
noncomputable def ZjF(i0:Int):List PV->Rr PV:=ZbJ fun ns=>.ok (.int (if ns=[] then i0 else ZgM ns))
theorem Zht{i0:Int}{ns:List Int}:ZjF i0 [.lst (ns.map PV.int)]=.ok (.int (if ns=[] then i0 else ZgM ns)):=by
 unfold ZjF ZbJ
 simp only[Zau]
section
variable {K:W.Frag}{EX:PX->Hp->Prop}{Γ Γ':List Md}{ta:TA}{fa:List PV->Rr (List PV)}
theorem Zkt{i0:Int}(ha:DAA K EX Γ Γ' ta fa):DE K EX Γ Γ' .P (ZkR K i0 ta) (fun ρ=>(fa ρ).bind (ZjF i0)):=by
 show DE K EX Γ Γ' .P (tCB (fun xs H1 Q=>∃p,∃ns:List Int,xs=[.ref p]/\SqL K H1 p (ns.map V.int)/\∀m,(ns=[]->m=i0)->(ns≠[]->m∈ns/\∀a∈ns,a<=m)->Q (.int m) H1) ta) _
 refine ZcS (fun {H xs vs Q} h z e=>?_) (Q9 fun ns e h=>by cases h) ha
 obtain⟨ns,rfl,e'⟩:=Rr.ints e
 cases e'
 obtain⟨v,rfl,h1⟩:=VX h
 obtain⟨a,rfl,h2⟩:=Ql h1
 refine⟨rfl,fun q=>⟨a,ns,rfl,h2,fun m h0 hm=>?_⟩⟩
 by_cases hn:ns=[]
 ·rw[h0 hn]
  rw[if_pos hn] at q
  exact q _ rfl
 ·rw[if_neg hn] at q
  obtain⟨m1,m2⟩:=hm hn
  rw[ZfG m1 m2]
  exact q _ rfl
end
end L2
namespace My
open PySem PySem.Spec PyProof.Rows L2
noncomputable def Zaf(n:Nat)(l:List Int)(p:Int):Nat:=((List.range (n+1)).find? fun(k:Nat)=>decide (1<=k/\(p+(k:Int))%n∈l)).getD 0
structure Znr(n:Nat)(l:List Int)(p:Int)(d:Nat):Prop where
 d1:1<=d
 dn:d<n
 at_:(p+(d:Int))%n∈l
 min:∀k:Nat,1<=k->k<d->(p+(k:Int))%n ∉ l
theorem ZeB:∀{m:Nat}{f:Nat->Bool}{k:Nat},(List.range m).find? f=some k->f k=true/\k<m/\∀j,j<k->f j=false:=fun {m f k} h=>by
 have h1:=List.find?_some h
 have h2:=Ztv.mp (List.mem_of_find?_eq_some h)
 refine⟨h1,h2,fun j hj=>?_⟩
 rw[List.find?_eq_some_iff_append] at h
 obtain⟨_,as,bs,e,hn⟩:=h
 have hlen:as.length=k:=by
  have e1:(List.range m)[as.length]?=some k:=by rw[e,ZsU (ZsN _)];simp
  rw[Zt6 (by
   have:=congrArg List.length e
   rw[ZuZ,Ztw,Ztq] at this
   omega)] at e1
  exact Option.some.inj e1
 have e2:as[j]?=some j:=by
  have:(List.range m)[j]?=some j:=Zt6 (by omega)
  rw[e,ZsX (by omega)] at this
  exact this
 have:=hn j (ZsK e2)
 simpa using this
theorem Zbi{n:Nat}{l:List Int}{p:Int}(h0:0<=p)(h1:p<n)(hp:p ∉ l)(hl:∃q∈l,0<=q/\q<n):Znr n l p (Zaf n l p):=by
 unfold Zaf
 cases hf:(List.range (n+1)).find? fun(k:Nat)=>decide (1<=k/\(p+(k:Int))%n∈l) with
 |none =>
  exfalso
  obtain⟨q,hq,q0,q1⟩:=hl
  have hn:=ZuU.mp hf
  have hne:q≠p:=fun z=>hp (by rw[<- z];exact hq)
  have m:=ZaP (n:=n) q0 q1 h0 h1
  have:=hn ((q-p)%n).toNat (Ztv.mpr (by rw[m];split<;>omega))
  apply this
  refine decide_eq_true ⟨by rw[m];split<;>omega, ?_⟩
  have e:(p+(((q-p)%n).toNat:Int))%n=q:=by
   rw[m]
   split
   ·rw[show p+((q-p).toNat:Int)=q by omega];exact Ztt q0 q1
   ·rw[show p+((q-p+n).toNat:Int)=q+n by omega,Zu6];exact Ztt q0 q1
  rw[e];exact hq
 |some k =>
  obtain⟨a,b,c⟩:=ZeB hf
  have a:=of_decide_eq_true a
  rw[Zuw]
  refine⟨a.1, ?_,a.2,fun j j1 j2 z=>?_⟩
  ·have:k≠n:=fun z=>by
    have a2:=a.2
    rw[z,Zu6,Ztt h0 h1] at a2
    exact hp a2
   omega
  ·have:=c j j2
   rw[decide_eq_true ⟨j1,z⟩] at this
   cases this
noncomputable def VW(n:Nat)(f:Nat->Int):Int:=((List.range n).map f).sum
theorem Jb(n:Nat)(f:Nat->Int):VW (n+1) f=VW n f+f n:=by
 unfold VW
 rw[ZtZ,Zty,List.sum_append];simp
theorem ZaA{n:Nat}{f g:Nat->Int}(h:∀i,i<n->f i<=g i):VW n f<=VW n g:=by
 induction n with
 |zero=>exact Zub _
 |succ n ih =>
  rw[Jb,Jb]
  have:=ih fun i hi=>h i (by omega)
  have:=h n (by omega)
  omega
theorem VL{n:Nat}{f g:Nat->Int}(h:∀i,i<n->f i=g i):VW n f=VW n g:=
 Int.le_antisymm (ZaA fun i hi=>Int.le_of_eq (h i hi)) (ZaA fun i hi=>Int.le_of_eq (h i hi).symm)
theorem Zjp{n:Nat}{f g:Nat->Int}(h:∀i,i<n->f i<=g i){r:Nat}(hr:r<n)(hs:f r<g r):VW n f<VW n g:=by
 induction n with
 |zero=>omega
 |succ n ih =>
  rw[Jb,Jb]
  by_cases e:r=n
  ·subst e
   have:=ZaA (n:=r) fun i hi=>h i (by omega)
   omega
  ·have:=ih (fun i hi=>h i (by omega)) (by omega)
   have:=h n (by omega)
   omega
theorem Ux(n:Nat)(f g:Nat->Int):VW n (fun i=>f i+g i)=VW n f+VW n g:=by
 induction n with
 |zero=>rfl
 |succ n ih=>rw[Jb,Jb,Jb,ih];omega
theorem ZgX(n:Nat)(c:Int)(f:Nat->Int):VW n (fun i=>f i*c)=VW n f*c:=by
 induction n with
 |zero=>simp[VW]
 |succ n ih=>rw[Jb,Jb,ih,Int.add_mul]
theorem Zdy{n:Nat}{p:Nat}(hp:p<n)(v:Int):VW n (fun i=>if i=p then v else 0)=v:=by
 induction n with
 |zero=>omega
 |succ n ih =>
  rw[Jb]
  by_cases e:p=n
  ·subst e
   rw[if_pos rfl]
   have:VW p (fun i=>if i=p then v else 0)=VW p (fun _=>0):=VL fun i hi=>if_neg (by omega)
   rw[this]
   have z:∀m,VW m (fun _=>(0:Int))=0:=fun m=>by
    induction m with
    |zero=>rfl
    |succ m ih=>rw[Jb,ih];rfl
   rw[z];omega
  ·rw[ih (by omega),if_neg (fun z=>e z.symm)];omega
theorem ZaB:∀(x:List Int),VW x.length (fun i=>x.getD i 0)=x.sum:=fun x=>by
 unfold VW
 congr 1
 exact Vc x 0
theorem Zbg(n:Nat)(l:List Int)(g:Int->Int):((Zc n l).map g).sum=VW n fun i=>if (i:Int)∈l then 0 else g i:=by
 unfold Zc
 rw[Ztd]
 induction n with
 |zero=>rfl
 |succ n ih =>
  rw[Jb,ZtZ,Zuk,Zty,List.sum_append,ih]
  by_cases e:(n:Int)∈l
  ·simp[e]
  ·simp[e]
noncomputable def ZgO(n:Nat)(l:List Int)(x:List Int):List Int:=[((Zc n l).map fun p=>x.getD p.toNat 0).sum,((Zc n l).map fun p=>x.getD p.toNat 0*(Zaf n l p:Int)).sum]
theorem Zjs{n:Nat}{s:Int}{l x:List Int}(hB:Bs n s x)(hl:∃q∈l,0<=q/\q<n){p:Int}(hp:p∈Zc n l)(hx:0<x.getD p.toNat 0):HT.Z1 (ZgO n l (Vz x p)) (ZgO n l x)=true:=by
 obtain⟨⟨p0,p1⟩,pl⟩:=Vl.mp hp
 obtain⟨hn,nn,sm⟩:=hB
 have D:=Zbi p0 p1 pl hl
 generalize hd:Zaf n l p=d at D
 have hB':=Bs.sow (b:=x) ⟨hn,nn,sm⟩ p0 p1
 have get:∀i,i<n->(Vz x p).getD i 0=(if (i:Int)=p then 0 else x.getD i 0)+x.getD p.toNat 0/n+ZgI n p (x.getD p.toNat 0%n) i:=fun i hi=>by
  rw[Zha (by omega)]
  unfold Zbx Zi8
  rw[hn]
 have h0:=Int.ediv_nonneg (Int.le_of_lt hx) (show (0:Int)<=n by omega)
 have key2:∀a b c e:Int,(a<c\/(a=c/\b<e))->HT.Z1 [a,b] [c,e]=true:=fun a b c e h=>by
  unfold HT.Z1 HT.Z1 HT.Z1
  by_cases h1:a=c
  ·have:b<e:=by omega
   by_cases h2:b=e
   ·omega
   ·simp[h1,h2,this]
  ·have:a<c:=by omega
   simp[h1,this]
 unfold ZgO
 apply key2
 have whole:∀y:List Int,y.length=n->VW n (fun i=>if (i:Int)∈l then y.getD i 0 else 0)+((Zc n l).map fun p=>y.getD p.toNat 0).sum=y.sum:=fun y hy=>by
  rw[Zbg n l fun p=>y.getD p.toNat 0,<- Ux,<- ZaB y,hy]
  refine VL fun i hi=>?_
  by_cases e:(i:Int)∈l
  ·rw[if_pos e,if_pos e];omega
  ·rw[if_neg e,if_neg e,Zta];omega
 have w1:=whole x hn
 have w2:=whole (Vz x p) hB'.1
 have hsum:(Vz x p).sum=x.sum:=by rw[hB'.2.2,sm]
 have grow:∀i,i<n->(if (i:Int)∈l then x.getD i 0 else 0)<=(if (i:Int)∈l then (Vz x p).getD i 0 else 0):=fun i hi=>by
  by_cases e:(i:Int)∈l
  ·rw[if_pos e,if_pos e,get i hi,if_neg (fun z=>pl (by rw[<- z];exact e))]
   have:=Zc4 n p (x.getD p.toNat 0%n) i
   omega
  ·rw[if_neg e,if_neg e];exact Zub _
 by_cases c:(d:Int)<=x.getD p.toNat 0
 ·left
  have hr0:=Zt8 (p+(d:Int)) (show (n:Int)≠0 by omega)
  have hr1:=Ztx (p+(d:Int)) (show (0:Int)<n by omega)
  have hrl:=D.at_
  have hmod:=QD p0 p1 (show (0:Int)<=(d:Int) by omega) (show (d:Int)<n from by have:=D.dn;omega)
  generalize hr:(p+(d:Int))%n=r at hr0 hr1 hrl hmod
  have hrn:r.toNat<n:=by omega
  have strict:=Zjp grow (r:=r.toNat) hrn (by
   rw[if_pos (by rw[Ztu hr0];exact hrl),if_pos (by rw[Ztu hr0];exact hrl),get _ hrn,Ztu hr0,if_neg (fun z=>pl (by rw[<- z];exact hrl))]
   by_cases big:(n:Int)<=x.getD p.toNat 0
   ·have:1<=x.getD p.toNat 0/n:=Int.le_ediv_of_mul_le (by omega) (by omega)
    have:=Zc4 n p (x.getD p.toNat 0%n) r.toNat
    omega
   ·rw[Ztt (by omega) (by omega),Uz]
    ·omega
    ·rw[Ztu hr0]
     have m2:=ZaP (n:=n) hr0 hr1 p0 p1
     have:=D.d1
     have:=D.dn
     rw[m2]
     split at hmod<;>split<;>omega)
  omega
 ·right
  have hq:x.getD p.toNat 0/n=0:=Int.ediv_eq_zero_of_lt (by omega) (by have:=D.dn;omega)
  have hm:x.getD p.toNat 0%n=x.getD p.toNat 0:=Ztt (by omega) (by have:=D.dn;omega)
  generalize hh:x.getD p.toNat 0=h at *
  have near:∀i:Nat,i<n->1<=((i:Int)-p)%n->((i:Int)-p)%n<=h->(i:Int) ∉ l/\(Zaf n l i:Int)<=(d:Int)-1:=fun i hi k1 k2=>by
   obtain⟨k,k1,k2,k3⟩:∃k:Nat,1<=k/\(k:Int)<=h/\(p+(k:Int))%n=i:=by
    refine⟨(((i:Int)-p)%n).toNat,by omega,by omega, ?_⟩
    have m2:=ZaP (n:=n) (show (0:Int)<=(i:Int) by omega) (by omega) p0 p1
    rw[Ztu (by omega),m2]
    split
    ·rw[show p+((i:Int)-p)=i by omega];exact Ztt (by omega) (by omega)
    ·rw[show p+((i:Int)-p+n)=i+n by omega,Zu6];exact Ztt (by omega) (by omega)
   have hil:(i:Int) ∉ l:=fun z=>by
    have:=D.min k k1 (by omega)
    rw[k3] at this
    exact this z
   refine⟨hil, ?_⟩
   have D':=Zbi (l:=l) (show (0:Int)<=(i:Int) by omega) (by omega) hil hl
   apply Classical.byContradiction
   intro z
   have:=D'.min (d-k) (by omega) (by omega)
   apply this
   have e:((i:Int)+((d-k:Nat):Int))%n=(p+(d:Int))%n:=by
    rw[<- k3,Int.emod_add_emod]
    congr 1
    omega
   rw[e];exact D.at_
  have same:VW n (fun i=>if (i:Int)∈l then (Vz x p).getD i 0 else 0)=VW n (fun i=>if (i:Int)∈l then x.getD i 0 else 0):=VL fun i hi=>by
   by_cases e:(i:Int)∈l
   ·rw[if_pos e,if_pos e,get i hi,if_neg (fun z=>pl (by rw[<- z];exact e)),hq,hm,Ui (fun z=>(near i hi z.1 z.2).1 e)]
    omega
   ·rw[if_neg e,if_neg e]
  refine⟨by omega, ?_⟩
  rw[Zbg n l fun q=>(Vz x p).getD q.toNat 0*(Zaf n l q:Int),Zbg n l fun q=>x.getD q.toNat 0*(Zaf n l q:Int)]
  have cnt:VW n (fun i=>ZgI n p h i)=h:=by
   have e1:VW n (fun i=>(Vz x p).getD i 0)=x.sum:=by rw[<- hsum,<- ZaB (Vz x p),hB'.1]
   have e2:VW n (fun i=>(Vz x p).getD i 0)+VW n (fun i=>if i=p.toNat then h else 0)=VW n (fun i=>x.getD i 0)+VW n (fun i=>ZgI n p h i):=by
    rw[<- Ux,<- Ux]
    refine VL fun i hi=>?_
    rw[get i hi,hq,hm]
    by_cases e:(i:Int)=p
    ·rw[if_pos e,if_pos (by omega),show i=p.toNat by omega,hh];omega
    ·rw[if_neg e,if_neg (by omega)];omega
   rw[Zdy (by omega),e1] at e2
   have e3:=ZaB x
   rw[hn] at e3
   omega
  have step:VW n (fun i=>(if (i:Int)∈l then 0 else (Vz x p).getD ((i:Int)).toNat 0*(Zaf n l i:Int))+(if i=p.toNat then h*(d:Int) else 0))<=VW n (fun i=>(if (i:Int)∈l then 0 else x.getD ((i:Int)).toNat 0*(Zaf n l i:Int))+ZgI n p h i*((d:Int)-1)):=by
   refine ZaA fun i hi=>?_
   rw[Zta,get i hi,hq,hm]
   by_cases e:(i:Int)=p
   ·have e':i=p.toNat:=by omega
    rw[if_neg (by rw[e];exact pl),if_pos e,if_pos e',if_neg (by rw[e];exact pl),e',hh,Ztu p0,hd,Ui (by rw[Ztu p0,Int.sub_self,Int.zero_emod];omega)]
    simp
   ·rw[if_neg e,if_neg (show ¬i=p.toNat by omega)]
    by_cases g:1<=((i:Int)-p)%n/\((i:Int)-p)%n<=h
    ·obtain⟨g1,g2⟩:=near i hi g.1 g.2
     rw[Uz g,if_neg g1,if_neg g1]
     have:(x.getD i 0+0+1)*(Zaf n l i:Int)=x.getD i 0*(Zaf n l i:Int)+(Zaf n l i:Int):=by
      rw[Int.add_zero,Int.add_mul,Int.one_mul]
     rw[this]
     omega
    ·rw[Ui g]
     by_cases e2:(i:Int)∈l
     ·rw[if_pos e2,if_pos e2];omega
     ·rw[if_neg e2,if_neg e2];simp
  rw[Ux,Ux,ZgX,cnt,Zdy (show p.toNat<n by omega)] at step
  have:h*((d:Int)-1)=h*(d:Int)-h:=by rw[Int.mul_sub,Int.mul_one]
  omega
noncomputable def enF(n:Nat)(l b:List Int):List (List Int):=(stK ((Zao (Zc n l) b).map (ZgO n l))).map fun i=>(Zao (Zc n l) b).getD i []
theorem Qr(n:Nat)(l b:List Int):(enF n l b).Perm (Zao (Zc n l) b):=ZgY (by simp)
theorem Zge(n:Nat)(l b:List Int):(enF n l b).Nodup:=(Qr n l b).nodup_iff.mpr (ZaG _ _)
theorem ZlW(n:Nat)(l b:List Int):(enF n l b).Pairwise fun x y=>HT.Z1 (ZgO n l y) (ZgO n l x)=false:=by
 have h:=ZkX (kz:=(Zao (Zc n l) b).map (ZgO n l)) (fun k hk=>by obtain⟨x,_,rfl⟩:=ZsV.mp hk;rfl)
 unfold enF
 rw[ZtH] at h ⊢
 refine h.imp_of_mem fun {i j} hi hj q=>?_
 have li:=Zfa hi
 have lj:=Zfa hj
 rw[ZsI] at li lj
 rw[ZsG,ZsG,ZsM,ZsM,ZsH li,ZsH lj] at q
 rw[ZsG,ZsG,ZsH li,ZsH lj]
 exact q
structure V3(n:Nat)(s:Int)(l b:List Int):Prop where
 f:Zcx n s (Zc n l) b
 bar:∃q∈l,0<=q/\q<n
theorem V3.len{n:Nat}{s:Int}{l b:List Int}(h:V3 n s l b):(enF n l b).length<=1000:=by
 rw[(Qr n l b).length_eq];exact h.f.le _
theorem V3.mem{n:Nat}{s:Int}{l b:List Int}(h:V3 n s l b){x:List Int}:x∈enF n l b ↔ Rch (Zc n l) b x:=by
 rw[(Qr n l b).mem_iff];exact h.f.mem
theorem V3.ahead{n:Nat}{s:Int}{l b:List Int}(h:V3 n s l b){i:Nat}{x:List Int}(hi:(enF n l b)[i]?=some x){p:Int}(hp:p∈Zc n l)(hx:0<x.getD p.toNat 0):∃j,j<i/\(enF n l b)[j]?=some (Vz x p):=by
 have rx:=h.mem.mp (ZsK hi)
 have ry:Vz x p∈enF n l b:=h.mem.mpr (.step rx hp hx)
 have k:=Zjs (rx.bs h.f.hP h.f.hb) h.bar hp hx
 obtain⟨j,hj⟩:=Ztj ry
 refine⟨j, ?_,hj⟩
 obtain⟨li,ei⟩:=ZsJ.mp hi
 obtain⟨lj,ej⟩:=ZsJ.mp hj
 apply Classical.byContradiction
 intro c
 by_cases e:i=j
 ·subst e
  rw[ei] at ej
  rw[<- ej,HL.JX] at k
  cases k
 ·have:=ZtE.mp (ZlW n l b) i j li lj (by omega)
  rw[ei,ej,k] at this
  cases this
noncomputable def vF(g:List Int->Int)(P:List Int):Nat->List Int->Int
 |0,_=>0
 |k+1,x=>g ((Jn P x).map fun y=>vF g P k y.2)
theorem Za7(g:List Int->Int)(P:List Int)(k:Nat)(x:List Int):vF g P (k+1) x=g ((Jn P x).map fun y=>vF g P k y.2):=rfl
noncomputable def Zi2(g:List Int->Int)(P:List Int)(x:List Int):Int:=vF g P (1001+P.length) x
theorem Zjl(g:List Int->Int)(P:List Int)(x:List Int):Zi2 g P x=g ((Jn P x).map fun y=>vF g P (1000+P.length) y.2):=by
 unfold Zi2
 rw[show 1001+P.length=(1000+P.length)+1 by omega,Za7]
theorem V3.same{n:Nat}{s:Int}{l b:List Int}(h:V3 n s l b)(g:List Int->Int):∀(i k k':Nat) (x:List Int),i<k->i<k'->(enF n l b)[i]?=some x->vF g (Zc n l) k x=vF g (Zc n l) k' x:=by
 intro i
 induction i using Nat.strongRecOn with
 |_ i ih =>
  intro k k' x hk hk' hx
  match k,k',hk,hk' with
  |k+1,k'+1,hk,hk' =>
   rw[Za7,Za7]
   congr 1
   refine ZtA fun y hy=>?_
   obtain⟨y1,y2,y3⟩:=Jl.mp hy
   obtain⟨j,hj,ej⟩:=h.ahead hx y1 y2
   rw[<- y3] at ej
   exact ih j hj k k' y.2 (by omega) (by omega) ej
theorem V3.val{n:Nat}{s:Int}{l b:List Int}(h:V3 n s l b)(g:List Int->Int){x:List Int}(hx:x∈enF n l b):Zi2 g (Zc n l) x=g ((Jn (Zc n l) x).map fun y=>Zi2 g (Zc n l) y.2):=by
 obtain⟨i,hi⟩:=Ztj hx
 have hl:=h.len
 have li:=(ZsJ.mp hi).1
 rw[Zjl]
 congr 1
 refine ZtA fun y hy=>?_
 obtain⟨y1,y2,y3⟩:=Jl.mp hy
 obtain⟨j,hj,ej⟩:=h.ahead hi y1 y2
 rw[<- y3] at ej
 unfold Zi2
 exact h.same g j _ _ y.2 (by omega) (by omega) ej
theorem V3.go{n:Nat}{s:Int}{l b:List Int}(h:V3 n s l b){x:List Int}(hx:Rch (Zc n l) b x):V3 n s l x:=⟨h.f.go hx,h.bar⟩
noncomputable def gR(L:List Int):Int:=if L=[] then 0 else ZgM (L.map (·+1))
noncomputable def rkB(P x:List Int):Int:=Zi2 gR P x
theorem ZiT:gR []=0:=rfl
theorem ZhV{L:List Int}(h:L≠[]):gR L=ZgM (L.map (·+1)):=if_neg h
theorem Znb{L:List Int}(h:∀v∈L,0<=v):0<=gR L:=by
 unfold gR
 split
 ·exact Zub _
 ·rename_i hn
  obtain⟨v,hv⟩:=ZtN L hn
  have:=ZcL (ns:=L.map (·+1)) (ZsV.mpr ⟨v,hv,rfl⟩)
  have:=h v hv
  omega
theorem ZkJ{g:List Int->Int}(hg:∀L:List Int,(∀v∈L,0<=v)->0<=g L)(P:List Int):∀k x,0<=vF g P k x
 |0,_=>Zub _
 |k+1,x=>hg _ fun v hv=>by
  obtain⟨y,_,rfl⟩:=ZsV.mp hv
  exact ZkJ hg P k y.2
theorem ZaE(P x:List Int):0<=rkB P x:=by
 unfold rkB Zi2
 exact ZkJ (fun _=>Znb) P _ x
theorem Zld{k:Nat}:∀(g:Nat) (P x:List Int),g<=k->vF gR P g x<=g
 |0,P,x,_=>Zub _
 |g+1,P,x,h=>by
  rw[Za7]
  by_cases hn:((Jn P x).map fun y=>vF gR P g y.2)=[]
  ·rw[hn,ZiT];omega
  ·rw[ZhV hn]
   have hm:=ZaT (ns:=((Jn P x).map fun y=>vF gR P g y.2).map (·+1)) (by simpa using hn)
   obtain⟨v,hv,e⟩:=ZsV.mp hm
   obtain⟨y,_,rfl⟩:=ZsV.mp hv
   have:=Zld (k:=k) g P y.2 (by omega)
   rw[<- e];omega
theorem V3.rk{n:Nat}{s:Int}{l b:List Int}(h:V3 n s l b):rkB (Zc n l) b=gR ((Jn (Zc n l) b).map fun y=>rkB (Zc n l) y.2):=h.val gR (h.mem.mpr .refl)
noncomputable def stR(P x:List Int):Int×List Int:=((Jn P x).filter fun y=>decide (rkB P y.2=rkB P x-1)).headD (0,[])
theorem V3.stR{n:Nat}{s:Int}{l b:List Int}(h:V3 n s l b)(hp:0<rkB (Zc n l) b):((Jn (Zc n l) b).filter fun y=>decide (rkB (Zc n l) y.2=rkB (Zc n l) b-1))≠[]/\My.stR (Zc n l) b∈Jn (Zc n l) b/\rkB (Zc n l) (My.stR (Zc n l) b).2=rkB (Zc n l) b-1:=by
 have e:=h.rk
 have hne:((Jn (Zc n l) b).filter fun y=>decide (rkB (Zc n l) y.2=rkB (Zc n l) b-1))≠[]:=by
  by_cases hn:((Jn (Zc n l) b).map fun y=>rkB (Zc n l) y.2)=[]
  ·rw[hn,ZiT] at e;omega
  ·rw[ZhV hn] at e
   have hm:=ZaT (ns:=((Jn (Zc n l) b).map fun y=>rkB (Zc n l) y.2).map (·+1)) (by simpa using hn)
   rw[<- e] at hm
   obtain⟨v,hv,e2⟩:=ZsV.mp hm
   obtain⟨y,hy,rfl⟩:=ZsV.mp hv
   exact List.ne_nil_of_mem (Zt7.mpr ⟨hy,decide_eq_true (by omega)⟩)
 refine⟨hne, ?_⟩
 unfold My.stR
 cases hf:(Jn (Zc n l) b).filter fun y=>decide (rkB (Zc n l) y.2=rkB (Zc n l) b-1) with
 |nil=>exact absurd hf hne
 |cons y ys =>
  have hy:y∈(Jn (Zc n l) b).filter fun y=>decide (rkB (Zc n l) y.2=rkB (Zc n l) b-1):=by rw[hf];exact Zt5 ..
  obtain⟨a1,a2⟩:=Zt7.mp hy
  exact⟨a1,of_decide_eq_true a2⟩
noncomputable def plB(P b:List Int):Nat->List Int
 |0=>b
 |i+1=>(stR P (plB P b i)).2
noncomputable def plP(P b:List Int):List Int:=(List.range (rkB P b).toNat).map fun i=>(stR P (plB P b i)).1
theorem V3.pl{n:Nat}{s:Int}{l b:List Int}(h:V3 n s l b):∀i:Nat,(i:Int)<=rkB (Zc n l) b->Rch (Zc n l) b (plB (Zc n l) b i)/\rkB (Zc n l) (plB (Zc n l) b i)=rkB (Zc n l) b-i
 |0,_=>⟨.refl,by show rkB _ b=_;omega⟩
 |i+1,hi=>by
  obtain⟨r1,r2⟩:=h.pl i (by omega)
  obtain⟨_,m,e⟩:=(h.go r1).stR (by omega)
  obtain⟨m1,m2,m3⟩:=Jl.mp m
  refine⟨?_, ?_⟩
  ·show Rch _ b (My.stR (Zc n l) (plB (Zc n l) b i)).2
   rw[m3]
   exact .step r1 m1 m2
  ·show rkB _ (My.stR (Zc n l) (plB (Zc n l) b i)).2=_
   rw[e,r2];omega
theorem Zel{E:List (List Int)}{f:List Int->PV}{i j:Nat}{y:List Int}(nd:E.Nodup)(hj:j<i)(hy:E[j]?=some y):atK ((E.take i).map tI) ((E.take i).map f) (tI y)=some (f y):=by
 refine Zjd (j:=j) (ZkS (nd.sublist (ZuX _ _))) ?_ ?_
 ·rw[ZsM,ZtY hj,hy];rfl
 ·rw[ZsM,ZtY hj,hy];rfl
theorem Qi{E:List (List Int)}{i:Nat}{y:List Int}(nd:E.Nodup)(hy:E[i]?=some y):tI y ∉ (E.take i).map tI:=fun z=>by
 obtain⟨w,hw,e⟩:=ZsV.mp z
 have:=Zb5 e
 subst this
 obtain⟨j,hj⟩:=Ztj hw
 have hji:j<i:=by
  have:=(ZsJ.mp hj).1
  rw[ZsY] at this
  omega
 rw[ZtY hji] at hj
 obtain⟨l1,e1⟩:=ZsJ.mp hj
 obtain⟨l2,e2⟩:=ZsJ.mp hy
 have:=(List.getElem_inj nd).mp (e1.trans e2.symm)
 omega
theorem V5{α β:Type}{E:List α}{f:α->β}{i:Nat}{y:α}(hy:E[i]?=some y):(E.take (i+1)).map f=(E.take i).map f++[f y]:=by
 rw[Zuq,hy,Zty];rfl
theorem ZfJ{α:Type}{f:PV->Rr PV}{q g:α->PV}:∀{L:List α},(∀x∈L,f (q x)=.ok (g x))->ZaV f (L.map q)=.ok (L.map g)
 |[],_=>rfl
 |x::L,h=>by
  rw[ZsW,ZsW]
  unfold ZaV
  rw[h x (Zt5 ..),ZfJ fun y hy=>h y (Ztk _ hy)]
  rfl
theorem Q4(P x:List Int):rkB P x<=1001+P.length:=by
 have:=Zld (k:=1001+P.length) (1001+P.length) P x (ZsN _)
 unfold rkB Zi2
 omega
end My
namespace L2
open PySem PySem.Spec PyProof.Rows
def Zcw(h:Heap)(d:Addr)(es:Array DictEntry)(ep:Nat):Prop:=∃o,h.get? d=some o/\o.ExactDict/\o.data=.dict es ep
theorem Zcw.at{h h':Heap}{d:Addr}{es:Array DictEntry}{ep:Nat}(x:Zcw h d es ep)(k:∀o,h.get? d=some o->h'.get? d=some o):Zcw h' d es ep:=by
 obtain⟨o,e,r⟩:=x
 exact⟨o,k o e,r⟩
section
variable {prog:Program}{w:World}{A:Around}{E:Value->Shared->Prop}{s:Shared}{d it:Addr}{es:Array DictEntry}{ep:Nat}
theorem Zcw.ty(x:Zcw s.heap d es ep):s.TypeIs (.ref d) "dict":=by
 obtain⟨o,e,r,_⟩:=x
 exact⟨o,e,r.1⟩
theorem Zhf{Q:Value->Shared->Prop}(nm:(d==sysModules)=false)(x:Zcw s.heap d es ep)(q:Q (.ref s.heap.objs.size) { s with heap:=s.heap.push { cls:=.type "dict_keyiterator",data:=.fields #[.ref d,.int 0 0,.int es.size 0,.int ep 0] } }):wpAny (model prog w) A (pyIter (.ref d)) Q E s:=by
 have ty:=x.ty
 obtain⟨o,e1,e2,e3⟩:=x
 refine wpAny_pyIter_slot ty F.slot_dict_iter (wpAny_call_entry F.slot_dict_iter ty F.entry_dict_iter (by
  unfold Builtin.«dict.__iter__»
  refine wpAny_bind (by
   unfold Builtin.Dict.dictSlotNone
   refine wpAny_bind (wpAny_notOrdered_dict ty (by
    show wpAny _ _ (pure (Value.ref d)) _ _ s
    refine wpAny_pure (by
     show wpAny _ _ (Builtin.Dict.showsAll d >>= _) _ _ s
     unfold Builtin.Dict.showsAll
     rw[if_neg (by rw[nm];exact Bool.false_ne_true)]
     refine wpAny_bind (wpAny_pure (wpAny_bind (wpAny_dictEntries e1 e3 (wpAny_bind (wpAny_dictEpoch e1 e3 (wpAny_bind (wpAny_newObj_type (wpAny_pure ⟨_,rfl, "dict_keyiterator",_,⟨_,Heap.get?_push_size _ rfl,rfl⟩,F.slot_dict_keyiterator_next.lookup, ?_⟩))))))))
     simpa[rawInt] using q))))) (F.args_dict_iter_1 _))
theorem Zhg{i:Nat}{Q:Option Value->Shared->Prop}(hi:s.heap.IsKeyIter it d i es.size ep)(x:Zcw s.heap d es ep)(hx:i<es.size)(q:∀h',h'.IsKeyIter it d (i+1) es.size ep->Heap.SameBut it s.heap h'->Q (some es[i].key) { s with heap:=h' }):wpAny (model prog w) A (pyNext (.ref it)) Q E s:=by
 have ty:=hi.typeIs
 obtain⟨o,e1,e2,e3⟩:=id hi
 obtain⟨u,u1,u2,u3⟩:=x
 unfold pyNext
 refine wpAny_bind (wpAny_attempt (wpAny_callSpecial?_slot (name:=Str.ofString "__next__") ty F.slot_dict_keyiterator_next (wpAny_call_entry F.slot_dict_keyiterator_next ty F.entry_dict_keyiterator_next (by
  refine wpAny_bind (wpAny_pure (wpAny_bind (wpAny_bind (by
   first
    |refine wpAny_bind (wpAny_typeNameOfWhole_keyiter ty (wpAny_pure (wpAny_bind (wpAny_fieldsOf e1 e3 ?_))))
    |refine wpAny_bind (wpAny_typeNameOf_keyiter ty (wpAny_pure (wpAny_bind (wpAny_fieldsOf e1 e3 ?_))))
   have n1:Builtin.Dict_items.ownsTuple "dict_keyiterator"=false:=by decide
   simp only[n1,Bool.false_eq_true,if_false]
   show wpAny _ _ (if (Value.ref d==Value.none)=true then _ else _) _ _ s
   rw[if_neg (show ¬((Value.ref d==Value.none)=true) from Bool.false_ne_true)]
   refine wpAny_bind (wpAny_pure (wpAny_bind (wpAny_dictEntries u1 u3 ?_)))
   rw[if_neg (by simp)]
   refine wpAny_bind (wpAny_pure (wpAny_bind (wpAny_dictEpoch u1 u3 ?_)))
   rw[if_neg (by simp)]
   refine wpAny_pure ?_
   simp only[show ¬((i:Int)<0) from by omega,if_false,Zta,Zuv hx]
   have hit':(s.heap.update it (Obj.mapFields (·.setIfInBounds 1 (rawInt ((i:Int)+1))))).IsKeyIter it d (i+1) es.size ep:=⟨_,Heap.get?_update_self _ e1 (Obj.isFreed_of_fields (Obj.data_mapFields e3 _)),(Obj.cls_mapFields ..).trans e2,by rw[Obj.data_mapFields e3];simp[rawInt]⟩
   refine wpAny_bind (by
    first
     |refine wpAny_bind (wpAny_typeNameOfWhole_keyiter ty (wpAny_pure (wpAny_bind (wpAny_isOneOf_keyiter ty ?_))))
     |refine wpAny_bind (wpAny_typeNameOf_keyiter ty (wpAny_pure (wpAny_bind (wpAny_isOneOf_keyiter ty ?_))))
    show wpAny _ _ (setField (.ref it) 1 (rawInt ((i:Int)+1)) >>= _) _ _ s
    refine wpAny_bind (wpAny_setField e1 e3 (by simp) (wpAny_bind (wpAny_holding (wpAny_bind (wpAny_isOneOf_keyiter (s:={ s with heap:=s.heap.update it (Obj.mapFields (·.setIfInBounds 1 (rawInt ((i:Int)+1)))) }) hit'.typeIs (by
     show wpAny _ _ (pure es[i].key) _ _ _
     exact wpAny_pure (wpAny_pure ⟨_,rfl,wpAny_pure (q _ hit' (Heap.SameBut.update ..))⟩))))))))))))) (F.args_dict_keyiterator_next_1 _))))
theorem Zj1{Q:Option Value->Shared->Prop}(hh:A.handled=none)(hi:s.heap.IsKeyIter it d es.size es.size ep)(x:Zcw s.heap d es ep)(q:∀h',Heap.ExtBut it s.heap h'->Q none { s with heap:=h' }):wpAny (model prog w) A (pyNext (.ref it)) Q E s:=by
 have ty:=hi.typeIs
 obtain⟨o,e1,e2,e3⟩:=id hi
 obtain⟨u,u1,u2,u3⟩:=x
 unfold pyNext
 refine wpAny_bind (wpAny_attempt (wpAny_callSpecial?_slot (name:=Str.ofString "__next__") ty F.slot_dict_keyiterator_next (wpAny_call_entry F.slot_dict_keyiterator_next ty F.entry_dict_keyiterator_next (by
  refine wpAny_bind (wpAny_pure (wpAny_bind (wpAny_bind (by
   first
    |refine wpAny_bind (wpAny_typeNameOfWhole_keyiter ty (wpAny_pure (wpAny_bind (wpAny_fieldsOf e1 e3 ?_))))
    |refine wpAny_bind (wpAny_typeNameOf_keyiter ty (wpAny_pure (wpAny_bind (wpAny_fieldsOf e1 e3 ?_))))
   have n1:Builtin.Dict_items.ownsTuple "dict_keyiterator"=false:=by decide
   simp only[n1,Bool.false_eq_true,if_false]
   show wpAny _ _ (if (Value.ref d==Value.none)=true then _ else _) _ _ s
   rw[if_neg (show ¬((Value.ref d==Value.none)=true) from Bool.false_ne_true)]
   refine wpAny_bind (wpAny_pure (wpAny_bind (wpAny_dictEntries u1 u3 ?_)))
   rw[if_neg (by simp)]
   refine wpAny_bind (wpAny_pure (wpAny_bind (wpAny_dictEpoch u1 u3 ?_)))
   rw[if_neg (by simp)]
   refine wpAny_pure ?_
   simp only[show ¬((es.size:Int)<0) from by omega,if_false,Zta,Zui (ZsN es.size)]
   refine wpAny_bind (by
    first
     |refine wpAny_bind (wpAny_typeNameOfWhole_keyiter ty (wpAny_pure ?_))
     |refine wpAny_bind (wpAny_typeNameOf_keyiter ty (wpAny_pure ?_))
    show wpAny _ _ (setField (.ref it) 0 .none >>= _) _ _ s
    refine wpAny_bind (wpAny_setField e1 e3 (by simp) ?_)
    show wpAny _ _ (newExc (.type "StopIteration") [] >>= _) _ _ _
    refine wpAny_bind ?_
    simp only[newExc,newTuple]
    refine wpAny_bind (wpAny_newObj_type (wpAny_bind (m:=firstArgMember _ _) (wpAny_of_eq (a:=Value.none) (by first|rfl|(simp only[firstArgMember];rfl)) ?_)) (by size_fits))
    refine wpAny_newObj_type ?_ (by size_fits)
    simp only[raiseNew]
    refine wpAny_bind (wpAny_handled ?_)
    rw[show A.in1.handled=none from hh]
    refine wpAny_bind (wpAny_pure (wpAny_throw ?_));refine wpAny_bind (wpAny_isInstance (T := "StopIteration") (b:=true) ⟨_,Heap.get?_push_size _ rfl,rfl⟩ isSubtype_stop ?_);exact wpAny_pure (q _ (((Heap.SameBut.update ..).extBut.push _).push _)))))))) (F.args_dict_keyiterator_next_1 _))))
theorem Zj0{Q:Value->Shared->Prop}(nm:(d==sysModules)=false)(x:Zcw s.heap d es ep)(hz:es.size<=2^24)(q:Q (.int es.size (s.toks+1)) { s with toks:=s.toks+1+1 }):wpAny (model prog w) A (call (.builtin "len") [.ref d]) Q E s:=by
 have ty:=x.ty
 refine PyProof.Rows.call_len_slot (n:=es.size) ty F.slot_dict_len (fun Q' hq=>wpAny_call_entry F.slot_dict_len ty F.entry_dict_len (by
  obtain⟨o,e1,e2,e3⟩:=x
  show wpAny _ _ (dictSize d >>= _) _ _ s
  unfold dictSize
  refine wpAny_bind (wpAny_bind (wpAny_dictEntries e1 e3 (wpAny_pure (by
   show wpAny _ _ (Builtin.Dict.pendingCount d >>= _) _ _ s
   refine wpAny_bind (wpAny_pendingCount_other nm (wpAny_ret_mkInt ?_))
   simpa using hq))))) (F.args_dict_len_1 _)) (by omega) (by omega) q
theorem ZeP(hh:A.handled=none)(I:Addr)(ne:d≠I):Walks prog w A I [I,d] [I] es.size (fun i v=>(es.map (·.key))[i]?=some v) (fun i h=>h.IsKeyIter I d i es.size ep/\Zcw h d es ep) where
 sub b hb:=by simp at hb;simp[hb]
 frame _ _ _ st k:=⟨st.1.at fun o e=>k I (by simp) o e,st.2.at fun o e=>k d (by simp) o e⟩
 item i s Q E hi st q:=Zhg st.1 st.2 hi fun h' st' sb=>q _ h' s.toks (by simp[hi]) ⟨st',st.2.at fun o e=>(sb.2 d ne).trans e⟩ fun b o hb e=>(sb.2 b (fun z=>hb (by simp[z]))).trans e
 done s Q E st q:=Zj1 hh st.1 st.2 fun h' eb=>q h' s.toks fun b o hb e=>eb b o (fun z=>hb (by simp[z])) e
 self _ _ _ _ st q:=wpAny_pyIter_keyiter st.1 q
theorem ZhO{Q:Bool->Shared->Prop}(nm:(d==sysModules)=false)(x:Zcw s.heap d es ep)(hz:es.size<=1000000)(q:∀b tk,Q b { s with toks:=tk }):wpAny (model prog w) A (Builtin.List.listLengthHint (.ref d)) Q E s:=by
 have ty:=x.ty
 unfold Builtin.List.listLengthHint
 refine wpAny_bind (wpAny_specialOf ty F.slot_dict_len.lookup ?_)
 generalize hid:("dict.__len__":String)=nm0
 wp_delta
 rw[show splitId nm0=some ("dict", "__len__") from by subst hid;decide +kernel]
 subst hid
 exact wpAny_bind (wpAny_isInstance (T := "dict") (b:=true) ty (by rw[isSubtype_type];kernel_rfl) (wpAny_ite_split (fun z=>absurd z (by decide)) (fun _=>wpAny_ite_split (fun _=>wpAny_bind (wpAny_typeOf ty (wpAny_pure (q _ s.toks)))) (fun z=>absurd (by decide +kernel) z))))
theorem Zay{R:Result->Shared->Prop}(hh:A.handled=none)(nm:(d==sysModules)=false)(x:Zcw s.heap d es ep)(hz:es.size<=1000000)(S:Addr)(res:Value)(c0:Nat)(hS:s.heap.get? S=some { cls:=.type "list",data:=.seq #[] c0 })(q:∀h' tk acc c',(∀b o,b≠S->s.heap.get? b=some o->h'.get? b=some o)->h'.get? S=some { cls:=.type "list",dict:=none,data:=.seq acc c',slots:=#[] } ->
   ItemsOf (fun i v=>(es.map (·.key))[i]?=some v) acc es.size->R (.ok (.ret res)) { s with heap:=h',toks:=tk }) :
  wpAny (model prog w) A.in1 (Builtin.List.listExtendWith (.ref S) (.ref d) res) (fun fin s'=>match fin with|.done f=>R (.ok f) s'|.again c'=>c'.quiet=true/\codeAny (model prog w) A c' R s') (fun e s'=>R (.error e) s') s:=by
 have ty:=x.ty
 have dne:S≠d:=fun e=>by
  obtain⟨o,e1,e2,e3⟩:=x
  rw[e,e1] at hS
  cases hS
  cases e3
 have sne:S≠s.heap.objs.size:=Ztm (Heap.lt_size hS)
 have dI:d≠s.heap.objs.size:=by
  obtain⟨o,e1,_⟩:=x
  exact Ztm (Heap.lt_size e1)
 have W:=(ZeP (prog:=prog) (w:=w) (A:=A.in1) (es:=es) (ep:=ep) hh s.heap.objs.size dI).toS
 have go:∀(h:Heap) (c1 tk:Nat),h.IsKeyIter s.heap.objs.size d 0 es.size ep->Zcw h d es ep->(∀b o,b≠S->s.heap.get? b=some o->h.get? b=some o) ->
   h.get? S=some { cls:=.type "list",data:=.seq #[] c1 }->codeAny (model prog w) A (.builtin "list.extend.loop" ⟨[.ref S,.ref s.heap.objs.size,res],[]⟩) R { s with heap:=h,toks:=tk }:=fun h c1 tk st st2 k hS1=>by
  refine codeAny_extend_loopS W (by rw[sizeLine_eq];omega) S (by simp[sne,dne]) res es.size 0 _ #[] c1 rfl (Zts _) ⟨st,st2⟩ hS1 (ItemsOf.nil _) fun s' acc' c' hm hS' hacc=>?_
  rw[Moved.eq_with hm]
  refine q s'.heap s'.toks acc' c' (fun b o hb e=>hm.heap b o (fun z=>?_) (k b o hb e)) hS' hacc
  rcases ZsT.mp z with z|z
  ·exact hb z
  ·exact absurd (Heap.lt_size e) (by rw[Ztf.mp z];exact ZtG _)
 unfold Builtin.List.listExtendWith
 refine wpAny_bind (wpAny_typeOf ty ?_)
 simp only[show Builtin.List.listSameRef (.ref S) (.ref d)=false by simp[Builtin.List.listSameRef,dne],show (Value.type "dict" == Value.type "list")=false by decide,show (Value.type "dict" == Value.type "tuple")=false by decide,Bool.or_false,Bool.false_eq_true,if_false]
 have p1:∀(ob:Obj) b o,s.heap.get? b=some o->(s.heap.push ob).get? b=some o:=fun ob b o e=>Heap.get?_push_of_some _ e
 refine wpAny_bind (Zhf nm x (wpAny_bind (wpAny_holding (ZhO nm (x.at fun o e=>p1 _ _ _ e) hz fun bb tk=>?_))))
 have it0:(s.heap.push { cls:=.type "dict_keyiterator",data:=.fields #[.ref d,.int 0 0,.int es.size 0,.int ep 0] }).IsKeyIter s.heap.objs.size d 0 es.size ep:=⟨_,Heap.get?_push_size _ rfl,rfl,rfl⟩
 have S1:=p1 { cls:=.type "dict_keyiterator",data:=.fields #[.ref d,.int 0 0,.int es.size 0,.int ep 0] } S _ hS
 refine wpAny_ite_split (fun _=>wpAny_bind (wpAny_rule (wpAny_bind ?_))) (fun _=>wpAny_pure ⟨plainId_quiet F.plain_extend_loop _,go _ c0 _ it0 (x.at fun o e=>p1 _ _ _ e) (fun b o _ e=>p1 _ b o e) S1⟩)
 show wpAny _ _ (updateSeq S (·.push .none) >>= fun _=>updateSeq S (·.pop)) _ _ _
 have S2:=Heap.get?_update_self (Obj.mapSeq (·.push Value.none)) S1 rfl
 have S3:=Heap.get?_update_self (Obj.mapSeq (·.pop)) S2 rfl
 have oth:∀(h:Heap) f b o,b≠S->h.get? b=some o->(h.update S f).get? b=some o:=fun h f b o hb e=>(Heap.get?_update_other _ _ (Ne.symm hb)).trans e
 exact wpAny_bind (wpAny_updateSeq S1 rfl (wpAny_updateSeq (hz:=by seq_fits) S2 rfl (wpAny_pure ⟨plainId_quiet F.plain_extend_loop _,go _ _ _ (it0.at fun o e=>oth _ _ _ _ (Ne.symm sne) (oth _ _ _ _ (Ne.symm sne) e)) (x.at fun o e=>oth _ _ _ _ (Ne.symm dne) (oth _ _ _ _ (Ne.symm dne) (p1 _ _ _ e))) (fun b o hb e=>oth _ _ _ _ hb (oth _ _ _ _ hb (p1 _ _ _ e))) S3⟩)))
theorem ZhB{Q:Value->Shared->Prop}(hh:A.handled=none)(nm:(d==sysModules)=false)(x:Zcw s.heap d es ep)(hz:es.size<=1000000)(q:∀h' tk acc c',(∀b o,s.heap.get? b=some o->h'.get? b=some o)->h'.get? s.heap.objs.size=some { cls:=.type "list",dict:=none,data:=.seq acc c',slots:=#[] }->ItemsOf (fun i v=>(es.map (·.key))[i]?=some v) acc es.size->Q (.ref s.heap.objs.size) { s with heap:=h',toks:=tk }) :
  wpAny (model prog w) A (call (.type "list") [.ref d]) Q E s:=by
 have hS:(s.heap.push { cls:=.type "list",data:=.seq #[] }).get? s.heap.objs.size=some { cls:=.type "list",data:=.seq #[] }:=Heap.get?_push_size _ rfl
 have p1:∀b o,s.heap.get? b=some o->(s.heap.push { cls:=.type "list",data:=.seq #[] }).get? b=some o:=fun b o e=>Heap.get?_push_of_some _ e
 have dne:d≠s.heap.objs.size:=by
  obtain⟨o,e1,_⟩:=x
  exact Ztm (Heap.lt_size e1)
 refine callType_codes (Q₁:=fun ob s1=>ob=.ref s.heap.objs.size/\s1={ s with heap:=s.heap.push { cls:=.type "list",data:=.seq #[] } }) F.called_list (F.typeCall_list_1 _) F.entry_list_init (code_list_new _ ⟨rfl,rfl⟩) fun ob s1 ⟨e1,e2⟩=>?_
 subst e1 e2
 refine⟨⟨_,hS,rfl⟩,F.args_list_init_2 _ _, ?_⟩
 show wpAny _ _ (do let old <- Builtin.List.listItems (.ref s.heap.objs.size);Builtin.List.listUpdate (.ref s.heap.objs.size) (fun _=>#[]);letGo old.toList.reverse;Builtin.List.listExtendWith (.ref s.heap.objs.size) (.ref d) .none) _ _ _
 refine wpAny_bind ?_
 unfold Builtin.List.listItems
 refine wpAny_bind (wpAny_seqItems hS rfl (wpAny_pure ?_))
 show wpAny _ _ (updateSeq s.heap.objs.size (fun _=>#[]) >>= fun _=>letGo (#[]:Array Value).toList.reverse >>= fun _=>Builtin.List.listExtendWith (.ref s.heap.objs.size) (.ref d) .none) _ _ _
 have S2:=Heap.get?_update_self (Obj.mapSeq (fun _=>(#[]:Array Value))) hS rfl
 have oth:∀b o,b≠s.heap.objs.size->s.heap.get? b=some o->((s.heap.push { cls:=.type "list",data:=.seq #[] }).update s.heap.objs.size (Obj.mapSeq (fun _=>(#[]:Array Value)))).get? b=some o:=fun b o hb e=>(Heap.get?_update_other _ _ (Ne.symm hb)).trans (p1 b o e)
 refine wpAny_bind (wpAny_updateSeq hS rfl (wpAny_bind (wpAny_letGo (Zay (A:=A.in1) hh nm (x.at fun o e=>oth _ _ dne e) hz _ .none _ S2 fun h' tk acc c' k hS' hacc=>⟨rfl,q h' tk acc c' (fun b o e=>?_) hS' hacc⟩))))
 have hb:b≠s.heap.objs.size:=Ztm (Heap.lt_size e)
 exact k b o hb (oth b o hb e)
end
section
variable {X:Cx}
theorem ZdQ:∀{H:Hp}{kvs:List (List Key×V)}{xs:List (List Key×Addr×Value)},KT H kvs xs->kvs.length=xs.length/\∀(i:Nat) (k:List Key) (v:V),kvs[i]?=some (k,v)->∃b u,xs[i]?=some (k,b,u)/\H b=some (.tup (k.map kV))
 |_,_,_,.nil=>⟨rfl,fun i k v h=>by simp at h⟩
 |H,_,_,.cons (a:=p) (b:=q) r rr=>by
  obtain⟨e,f⟩:=ZdQ rr
  refine⟨by simp[e],fun i k v h=>?_⟩
  cases i with
  |zero =>
   simp only[Zuc,Option.some.injEq] at h
   obtain⟨r1,r2,r3⟩:=r
   subst h
   exact⟨q.2.1,q.2.2,by rw[Zuc,show k=q.1 from r1],r2⟩
  |succ i =>
   rw[Zu5] at h ⊢
   exact f i k v h
def ZiD:List V->Hp->VK->Prop:=fun xs H Q=>∃p,∃kvs:List (List Key×V),xs=[.ref p]/\Rd H p (.dT kvs)/\kvs.length<=1000000 /\
  ∀l,H l=none->∀bs:List Addr,bs.length=kvs.length->(∀(i:Nat) (k:List Key) (v:V),kvs[i]?=some (k,v)->∃b,bs[i]?=some b/\H b=some (.tup (k.map kV)))->Q (.ref l) (upd H l (.lst (bs.map V.ref)))
theorem Zas{ks:List Value}{acc:Array Value}(h:ItemsOf (fun i v=>(List.toArray ks)[i]?=some v) acc ks.length):acc.toList=ks:=by
 obtain⟨h1,h2⟩:=h
 refine List.ext_getElem (by simpa using h1) fun i i1 i2=>?_
 have:=h2 i (acc.toList[i]) (by simp at i1 ⊢)
 have this:(List.toArray ks)[i]?=some acc.toList[i]:=this
 rw[List.getElem?_toArray,ZsH i2] at this
 exact(Option.some.inj this).symm
theorem Zan:∀(bs:List Addr),ZY (bs.map V.ref) (bs.map Value.ref)
 |[]=>.nil
 |b::bs=>.cons rfl (Zan bs)
theorem ZeK(hc:X.calm=true):Vx X (.type "list") ZiD:=by
 intro pins s σ H xs us Q I r h
 obtain⟨p,kvs,rfl,hp,hz0,q⟩:=h
 obtain⟨u,rfl,rx⟩:=Qb r
 cases rx
 obtain⟨z,nm,xs,rv,o,es,ep,h1,h2,h3,h4,h5⟩:=(show JG X.prog X.w H s.heap p (.dT kvs) from Zfk I.hok hp)
 obtain⟨g1,g2⟩:=ZdQ rv
 have hes:es.size=xs.length:=by rw[<- ZsP,h4,ZsI]
 refine ZhB (I.ok.hd hc) nm ⟨o,h1,h2,h3⟩ (by omega) fun h' tk acc c' k e hacc=>?_
 have hk:es.map (·.key)=List.toArray (xs.map fun x=>Value.ref x.2.1):=by
  apply Zuy.mp
  rw[Zug,h4,Ztd]
  rfl
 rw[hk,hes,show xs.length=(xs.map fun x=>Value.ref x.2.1).length by simp] at hacc
 have ha:=Zas hacc
 have ea:acc=List.toArray ((xs.map (·.2.1)).map Value.ref):=by
  apply Zuy.mp
  rw[ha,Ztd]
  rfl
 have I1:Inv X pins σ (upd H s.heap.objs.size (.lst ((xs.map (·.2.1)).map V.ref))) { s with heap:=h',toks:=tk }:=by
  refine I.laid (t':=tk) k (ZsN _) ⟨?_,_,c',Zan _,by rw[<- ea];exact e⟩
  rw[ZsI,ZsI,<- g1];exact z
 refine⟨.ref s.heap.objs.size,_,I1,rfl,q _ (I.hok.fresh (ZsN _)) (xs.map (·.2.1)) (by simp[g1]) fun i kk v hi=>?_⟩
 obtain⟨b,u,e1,e2⟩:=g2 i kk v hi
 exact⟨b,by rw[ZsM,e1];rfl,e2⟩
end
noncomputable def ZdD(xs:List PV):Rr PV:=match xs with
 |[.box _ (.dt ks) ys]=>if ks.length=ys.length/\ks.length<=1000000 then .ok (.lst (ks.map fun k=>.tup (k.map ZdS))) else .bad
 |_=>.bad
theorem Zfz{p:Option Addr}{bs:List (List Int)}{ys:List PV}(h:ys.length=bs.length)(hz:bs.length<=1000000):ZdD [.box p (.dt (bs.map fun b=>b.map Sum.inl)) ys]=.ok (.lst (bs.map ZR)):=by
 unfold ZdD
 simp only
 rw[if_pos ⟨by rw[ZsI];omega,by rw[ZsI];exact hz⟩,Ztd]
 congr 2
 refine ZtA fun b _=>?_
 simp only[Function.comp_apply,ZR,Ztd]
 rfl
theorem ZaF{K:W.Frag}{H:Hp}{S:Addr->Prop}:∀(k:List Key),Reps K H S (k.map ZdS) (k.map kV)
 |[]=>rfl
 |.inl i::k=>⟨_,_,rfl,rfl,ZaF k⟩
 |.inr x::k=>⟨_,_,rfl,rfl,ZaF k⟩
theorem UQ:∀(k:List Key),PV.flats (k.map ZdS)=true
 |[]=>rfl
 |.inl i::k=>by simp only[ZsW,ZdS,PV.flats,PV.flat,UQ k,Bool.and_self]
 |.inr x::k=>by simp only[ZsW,ZdS,PV.flats,PV.flat,UQ k,Bool.and_self]
theorem QP:∀(ks:List (List Key)),PV.flats (ks.map fun k=>.tup (k.map ZdS))=true
 |[]=>rfl
 |k::ks=>by simp only[ZsW,PV.flats,PV.flat,UQ k,QP ks,Bool.and_self]
theorem Zam{K:W.Frag}{H:Hp}{S:Addr->Prop}:∀(ks:List (List Key)) (bs:List Addr),bs.length=ks.length->(∀(i:Nat) (k:List Key),ks[i]?=some k->∃b,bs[i]?=some b/\H b=some (.tup (k.map kV)))->Reps K H S (ks.map fun k=>.tup (k.map ZdS)) (bs.map V.ref)
 |[],[],_,_=>rfl
 |[],b::bs,h,_=>by simp at h
 |k::ks,[],h,_=>by simp at h
 |k::ks,b::bs,h,f=>by
  obtain⟨b',e1,e2⟩:=f 0 k rfl
  have e1:b=b':=by simpa using e1
  subst e1
  exact⟨_,_,rfl,⟨b,_,rfl,⟨e2,trivial⟩,ZaF k⟩,Zam ks bs (by simpa using h) fun i kk hi=>f (i+1) kk hi⟩
section
variable {K:W.Frag}{EX:PX->Hp->Prop}{Γ Γ':List Md}{ta:TA}{fa:List PV->Rr (List PV)}
theorem Zih(ha:DAA K EX Γ Γ' ta fa):DE K EX Γ Γ' .F (tCB ZiD ta) (fun ρ=>(fa ρ).bind ZdD):=fun B H0 H σ ρ F R Q A d=>by
 refine ha B H0 H σ ρ F R _ A (d.bind.imp (fun xs _ d vs H1 F1 s1 f1 p1 A1=>?_) fun e q=>q)
 unfold ZdD at d
 split at d
 ·rename_i p ks ys _
  split at d
  ·rename_i hc
   obtain⟨v,rfl,a,ws,u,rfl,⟨hr,_⟩,⟨_,hl,rfl⟩,_⟩:=VX p1
   refine⟨a,_,rfl,hr,by rw[ZtT];omega,fun l hz bs hb f=>?_⟩
   have hlz:(ks.zip ws).length=ks.length:=by rw[ZtT];omega
   have pr:=Zam (K:=K) (H:=H1) (S:=fun _=>True) ks bs (by omega) fun i k hi=>by
    have hi':i<ks.length:=(ZsJ.mp hi).1
    have hw:i<ws.length:=by omega
    exact f i k ws[i] (by rw[ZtF];exact⟨hi,ZsH hw⟩)
   exact d _ _ (s1.trans (Z6.new hz)) (Res.newP s1 f1 pr (QP ks) A1 hz)
  ·exact d.elim
 ·exact d.elim
end
noncomputable def Zmk(v:Value):Sem (List Value):=match v with|.ref a=>(load a >>= fun o=>match o.data with|.seq ys _=>pure ys.toList|_=>unsupported "internal:collect")|_=>unsupported "internal:collect"
section
variable {prog:Program}{w:World}{A:Around}{E:Value->Shared->Prop}{s:Shared}{d:Addr}{es:Array DictEntry}{ep:Nat}
theorem ZcW{Q:List Value->Shared->Prop}(hh:A.handled=none)(nm:(d==sysModules)=false)(x:Zcw s.heap d es ep)(hz:es.size<=1000000)(q:∀h' tk,(∀b o,s.heap.get? b=some o->h'.get? b=some o)->s.heap.objs.size<=h'.objs.size->Q (es.map (·.key)).toList { s with heap:=h',toks:=tk }):wpAny (model prog w) A (collect (.ref d)) Q E s:=by
 have hS:(s.heap.push (seqObj "list" #[] 0)).get? s.heap.objs.size=some (seqObj "list" #[] 0):=Heap.get?_push_size _ rfl
 unfold collect
 refine wpAny_bind (wpAny_runValue (codeAny_builtin entry_proto_collect' (by
  refine wpAny_bind (m:=newList []) (wpAny_newList (wpAny_pure ⟨Code.quiet_builtin _ (by decide +kernel),codeAny_builtin entry_list_iadd' ?_⟩))
  rw[Around.under_plainId (show plainId "list.__iadd__"=true by decide +kernel) _]
  refine Zay (A:=A) (R:=fun r s2=>match r with|.ok (.ret v)=>wpAny (model prog w) A (Zmk v) Q E s2|.ok _=>False|.error x=>E x s2) (s:={ s with heap:=s.heap.push (seqObj "list" #[] 0) }) hh nm (x.at fun o e=>Heap.get?_push_of_some _ e) hz s.heap.objs.size (.ref s.heap.objs.size) 0 hS fun h' tk acc c' k e hacc=>?_
  have hes:es.size=(es.map (·.key)).toList.length:=by simp
  have hacc':acc.toList=(es.map (·.key)).toList:=Zas (by rw[Array.toArray_toList,<- hes];exact hacc)
  refine wpAny_bind (m:=load s.heap.objs.size) (wpAny_load e ?_)
  show wpAny _ _ (pure acc.toList) Q E _
  rw[hacc']
  exact wpAny_pure (q h' tk (fun b o eb=>k b o (Ztm (Heap.lt_size eb)) (Heap.get?_push_of_some _ eb)) (Zul (Heap.lt_size e))))))
theorem Zc5{vs:List Value}{Q:Value->Shared->Prop}(κ:SortKind)(Rv:Value->Value->Bool)(hh:A.handled=none)(nm:(d==sysModules)=false)(x:Zcw s.heap d es ep)(hv:(es.map (·.key)).toList=vs)(hz:vs.length<=1000000)(hk:2<=vs.length->∀(s1:Shared) (Q:SortKind->Shared->Prop),(∀b o,s.heap.get? b=some o->s1.heap.get? b=some o)->Q κ s1->wpAny (model prog w) A.in1.in1 (keyKind' vs.toArray) Q E s1)(hc:∀(s1:Shared) x y,x∈vs->y∈vs->(∀b o,s.heap.get? b=some o->s1.heap.get? b=some o)->∀C:Bool->Shared->Prop,C (Rv x y) s1->wpAny (model prog w) A.in1.in1 (keyLt' κ x y) C (fun _ _=>False) s1)(asy:∀x y,x∈vs->y∈vs->Rv x y=true->Rv y x=false)(tr:∀x y z,x∈vs->y∈vs->z∈vs->Rv y x=false->Rv z y=false->Rv z x=false)(hq:∀D h' tk c out,(∀b o,s.heap.get? b=some o->h'.get? b=some o)->s.heap.objs.size<=D->out.Perm vs->out.Pairwise (fun x y=>Rv y x=false)->h'.get? D=some (seqObj "list" (List.toArray out) c)->Q (.ref D) { s with heap:=h',toks:=tk }) :
  wpAny (model prog w) A (call (.builtin "sorted") [.ref d]) Q E s:=by
 have line:vs.length<=sizeLine:=JD hz
 have hes:es.size<=1000000:=by
  have:=congrArg List.length hv
  rw[ZsP,Array.size_map] at this
  omega
 refine Calls.call_function_entry kind_sorted plain_sorted entry_sorted (args_sorted1 _) ?_
 unfold Builtin.«sorted»
 refine wpAny_bind (m:=checkCount "sorted" 1 1 _) (wpAny_pure (wpAny_bind (ZcW (A:=A.in1) hh nm x hes fun h1 tk k1 hsz=>?_)))
 rw[hv]
 refine wpAny_bind (wpAny_newList ?_ line)
 have hD:(h1.push (seqObj "list" vs.toArray 0)).get? h1.objs.size=some (seqObj "list" vs.toArray 0):=Heap.get?_push_size _ rfl
 show wpAny _ _ _ _ _ { s with heap:=h1.push (seqObj "list" vs.toArray 0),toks:=tk }
 have up:∀(h2:Heap),(∀b o,b≠h1.objs.size->(h1.push (seqObj "list" vs.toArray 0)).get? b=some o->h2.get? b=some o)->∀b o,s.heap.get? b=some o->h2.get? b=some o:=fun h2 k b o q =>
  k b o (Ztm (Heap.lt_size (k1 b o q))) (Heap.get?_push_of_some _ (k1 b o q))
 refine wpAny_bind (wpAny_holding (wpAny_call_entry slot_list_sort ⟨_,hD,rfl⟩ entry_list_sort (Zes (s:={ s with heap:=h1.push (seqObj "list" vs.toArray 0),toks:=tk }) κ Rv hD hz (fun h2 s1 Q k q=>hk h2 s1 Q (up _ k) q) (fun s1 x y hx hy k C q=>hc s1 x y hx hy (up _ k) C q) asy tr fun h' c out k p1 p2 e=>?_) (args_list_sort _)))
 exact⟨_,rfl,wpAny_pure ⟨_,rfl,hq _ h' tk c out (up _ k) hsz p1 p2 e⟩⟩
end
section
variable {X:Cx}
def ZiC:List V->Hp->VK->Prop:=fun xs H Q=>∃p,∃kvs:List (List Key×V),∃ts:List (List Int),xs=[.ref p]/\Rd H p (.dT kvs)/\kvs.map (·.1)=ts.map (fun t=>t.map Sum.inl)/\(∀t∈ts,t≠[])/\ts.length<=1000000 /\
  ∀l,H l=none->∀qs:List PL2,(∀t∈qs,H t.1=some (.tup (t.2.map V.int)))->(qs.map (·.2)).Perm ts->UpU (qs.map (·.2))->Q (.ref l) (upd H l (.lst (qs.map fun t=>V.ref t.1)))
theorem ZeJ(hc:X.calm=true):Vx X (.builtin "sorted") ZiC:=by
 intro pins s σ H xs us Q I r h
 obtain⟨p,kvs,ts,rfl,hp,hks,hne,hz0,q⟩:=h
 obtain⟨u,rfl,rx⟩:=Qb r
 cases rx
 obtain⟨z,nm,xs,rv,o,es,ep,h1,h2,h3,h4,h5⟩:=(show JG X.prog X.w H s.heap p (.dT kvs) from Zfk I.hok hp)
 obtain⟨g1,g2⟩:=ZdQ rv
 have hlen:kvs.length=ts.length:=by
  have:=congrArg List.length hks
  rwa [ZsI,ZsI] at this
 obtain⟨qs,hq1,hq2,hq3⟩:∃qs:List PL2,qs.map (·.1)=xs.map (·.2.1)/\qs.map (·.2)=ts/\∀t∈qs,H t.1=some (.tup (t.2.map V.int)):=by
  refine⟨(xs.map (·.2.1)).zip ts,List.map_fst_zip (by rw[ZsI];omega),List.map_snd_zip (by rw[ZsI];omega),fun t ht=>?_⟩
  obtain⟨i,hi⟩:=Ztj ht
  rw[ZtF,ZsM] at hi
  obtain⟨i1,i2⟩:=hi
  have ki:(kvs.map (·.1))[i]?=some (t.2.map Sum.inl):=by rw[hks,ZsM,i2];rfl
  rw[ZsM] at ki
  cases e:kvs[i]? with
  |none=>rw[e] at ki;cases ki
  |some kv =>
   rw[e] at ki
   have ki:kv.1=t.2.map Sum.inl:=Option.some.inj ki
   obtain⟨b,u,e1,e2⟩:=g2 i kv.1 kv.2 e
   rw[e1] at i1
   have i1:b=t.1:=Option.some.inj i1
   rw[<- i1,e2,ki,Ztd];rfl
 have hk:(es.map (·.key)).toList=qs.map fun t=>Value.ref t.1:=by
  rw[Zug,h4,Ztd]
  have:=congrArg (List.map Value.ref) hq1
  rw[Ztd,Ztd] at this
  exact this.symm
 have hql:qs.length=ts.length:=by rw[<- hq2,ZsI]
 have tup:∀(s1:Shared),(∀b o,s.heap.get? b=some o->s1.heap.get? b=some o)->∀t∈qs,∃vs:List Value,ZY (t.2.map V.int) vs/\IsTup s1.heap t.1 vs.toArray:=fun s1 k t ht=>by
  have I':Inv X pins σ H { s with heap:=s1.heap,toks:=s1.toks }:=I.kept k
  obtain⟨vs,rv,pt,_⟩:=I'.tuple (show SqT X.K H t.1 (t.2.map V.int) from .inl (.inl (hq3 t ht)))
  exact⟨vs,rv,pt⟩
 have hu:∀t∈qs,∀t'∈qs,t.1=t'.1->t.2=t'.2:=fun t ht t' ht' e=>by
  have a1:=hq3 t ht
  rw[e,hq3 t' ht'] at a1
  have a1:t'.2.map V.int=t.2.map V.int:=by injection a1 with a1;injection a1
  exact((Zuj fun x y h=>by injection h).mp a1).symm
 refine Zc5 (vs:=qs.map fun t=>Value.ref t.1) (tuples' true) (fun x y=>HT.Z1 (VH qs (VU x)) (VH qs (VU y))) (I.ok.hd hc) nm ⟨o,h1,h2,h3⟩ hk (by rw[ZsI];omega) (fun h2 s1 Q' k q'=>?_) (fun s1 x y hx hy k C q'=>?_) (fun x y _ _ h=>QG h) (fun x y z _ _ _ h1 h2=>VC h1 h2) fun D h' tk c out k hD p1 p2 e=>?_
 ·have:∀(ts:List PL2) (its:List Value),(∀t∈ts,t.2≠[]/\∃vs:List Value,ZY (t.2.map V.int) vs/\IsTup s1.heap t.1 vs.toArray)->ZY (ts.map fun t=>V.ref t.1) its->∃fs:List Value,fs.length=ts.length/\PySem.W.KatTups s1.heap its fs/\∀v∈fs,∃n t,v=Value.int n t:=by
   intro ts
   induction ts with
   |nil =>
    intro its _ rv
    cases rv
    exact⟨[],rfl,trivial,by simp⟩
   |cons t ts ih =>
    intro its ht rv
    cases rv with
    |cons rv tv =>
     obtain⟨fs,e1,e2,e3⟩:=ih _ (fun t' h'=>ht t' (Ztk _ h')) tv
     obtain⟨hne,vs,rvs,ob,eo,oc,k,od⟩:=ht t (Zt5 ..)
     obtain⟨n,ns,en⟩:=Zut hne
     rw[en] at rvs
     cases rvs with
     |cons rn tn =>
      obtain⟨tk,rfl⟩:=rn
      have rv':_=Value.ref t.1:=rv
      subst rv'
      exact⟨.int n tk::fs,by simp[e1],⟨⟨t.1,ob,_,k,rfl,eo,oc,od,rfl⟩,e2⟩,fun v hv=>(ZsT.mp hv).elim (fun z=>⟨n,tk,z⟩) (e3 v)⟩
  obtain⟨fs,e1,e2,e3⟩:=this qs _ (fun t ht=>⟨hne _ (by rw[<- hq2];exact Zuz ht),tup s1 k t ht⟩) (U1 qs)
  exact PySem.W.kat_kind (T:=.type "int") e2 (by rw[e1];rw[ZsI] at h2;omega) (fun v hv=>by obtain⟨n,t,rfl⟩:=e3 v hv;exact PySem.W.Looks.of_pure rfl) rfl q'
 ·obtain⟨t,ht,rfl⟩:=ZsV.mp hx
  obtain⟨t',ht',rfl⟩:=ZsV.mp hy
  obtain⟨vs,rv,ob,eo,oc,k1,od⟩:=tup s1 k t ht
  obtain⟨vs',rv',ob',eo',oc',k1',od'⟩:=tup s1 k t' ht'
  refine PySem.W.kat_lt eo od eo' od' (ZaX rv rv' ?_ ?_)
  ·simp
  ·rw[show VU (.ref t.1)=t.1 from rfl,show VU (.ref t'.1)=t'.1 from rfl,Vb hu ht,Vb hu ht'] at q'
   exact q'
 ·have ho:∀u∈out,∃t∈qs,u=Value.ref t.1:=fun u hu=>by
   obtain⟨t,ht,e⟩:=ZsV.mp (p1.mem_iff.mp hu)
   exact⟨t,ht,e.symm⟩
  have hp':(out.map fun v=>((VU v,VH qs (VU v)):PL2)).Perm qs:=by
   have a1:=p1.map fun v=>((VU v,VH qs (VU v)):PL2)
   rw[Ztd] at a1
   have a2:qs.map ((fun v=>((VU v,VH qs (VU v)):PL2))∘fun t=>Value.ref t.1)=qs:=by
    have:qs.map ((fun v=>((VU v,VH qs (VU v)):PL2))∘fun t=>Value.ref t.1)=qs.map id:=ZtA fun t ht=>by
     show ((t.1,VH qs t.1):PL2)=t
     rw[Vb hu ht]
    rw[this,List.map_id]
   rw[a2] at a1
   exact a1
  have hup:UpU ((out.map fun v=>((VU v,VH qs (VU v)):PL2)).map (·.2)):=by
   rw[Ztd]
   exact ZtH.mpr (p2.imp fun h=>h)
  have hout:out=(out.map fun v=>((VU v,VH qs (VU v)):PL2)).map fun t=>Value.ref t.1:=by
   rw[Ztd]
   have:out.map ((fun(t:PL2)=>Value.ref t.1)∘fun v=>((VU v,VH qs (VU v)):PL2))=out.map id:=ZtA fun u hu=>by
    obtain⟨t,ht,rfl⟩:=ho u hu
    rfl
   rw[this,List.map_id]
  generalize (out.map fun v=>((VU v,VH qs (VU v)):PL2))=zs at hp' hup hout
  have I1:Inv X pins σ (upd H D (.lst (zs.map fun t=>V.ref t.1))) { s with heap:=h',toks:=tk }:=by
   refine I.laid (t':=tk) k hD ⟨?_,_,c, ?_,e⟩
   ·rw[ZsI,hp'.length_eq,hql];exact JD hz0
   ·rw[hout];exact U1 zs
  exact⟨.ref D,_,I1,rfl,q D (I.hok.fresh hD) zs (fun t ht=>hq3 t (hp'.mem_iff.mp ht)) (by rw[<- hq2];exact hp'.map _) hup⟩
end
open Classical in
noncomputable def ZdB(xs:List PV):Rr PV:=if h:∃(ts:List (List Int)) (p:Option Addr) (ys:List PV),xs=[.box p (.dt (ts.map fun t=>t.map Sum.inl)) ys]/\ys.length=ts.length/\OkU ts then newF ((Zc3 h.choose).map ZR) else .bad
theorem Zfx{ts:List (List Int)}{p:Option Addr}{ys:List PV}(hl:ys.length=ts.length)(h:OkU ts):ZdB [.box p (.dt (ts.map fun t=>t.map Sum.inl)) ys]=newF ((Zc3 ts).map ZR):=by
 have hex:∃(us:List (List Int)) (p':Option Addr) (ys':List PV),[PV.box p (.dt (ts.map fun t=>t.map Sum.inl)) ys]=[.box p' (.dt (us.map fun t=>t.map Sum.inl)) ys']/\ys'.length=us.length/\OkU us:=⟨ts,p,ys,rfl,hl,h⟩
 unfold ZdB
 rw[dif_pos hex]
 obtain⟨p',ys',e,_⟩:=hex.choose_spec
 have e2:ts.map (fun t=>t.map (Sum.inl:Int->Key))=hex.choose.map fun t=>t.map Sum.inl:=by
  have:=(List.cons.inj e).1
  injection this with _ a2 _
  injection a2
 have:∀{a b:List (List Int)},(a.map fun t=>t.map (Sum.inl:Int->Key))=(b.map fun t=>t.map Sum.inl)->a=b:=fun {a b} h=>(Zuj fun x y h=>(Zuj fun x y h=>Sum.inl.inj h).mp h).mp h
 rw[<- this e2]
section
variable {K:W.Frag}{EX:PX->Hp->Prop}{Γ Γ':List Md}{ta:TA}{fa:List PV->Rr (List PV)}
theorem Zig(ha:DAA K EX Γ Γ' ta fa):DE K EX Γ Γ' .F (tCB ZiC ta) (fun ρ=>(fa ρ).bind ZdB):=fun B H0 H σ ρ F R Q A d=>by
 refine ha B H0 H σ ρ F R _ A (d.bind.imp (fun xs _ d vs H1 F1 s1 f1 p1 A1=>?_) fun e q=>q)
 unfold ZdB at d
 split at d
 ·rename_i hex
  have hs:=hex.choose_spec
  generalize hex.choose=ts at d hs
  obtain⟨p,ys,rfl,hl,hne,hz⟩:=hs
  obtain⟨g1,g2,d⟩:=Dn.newF d
  obtain⟨v,rfl,a,ws,u,rfl,⟨hr,_⟩,⟨_,hlz,rfl⟩,_⟩:=VX p1
  refine⟨a,_,ts,rfl,hr,List.map_fst_zip (by omega),hne,hz,fun l hz' zs hq hp hup=>?_⟩
  have e:Zc3 ts=zs.map (·.2):=Qe (Uh _) hup ((ZP _).trans hp.symm)
  have pr:=Zfg (K:=K) (H:=H1) (S:=fun _=>True) (qs:=zs) fun t ht=>⟨t.1,_,rfl,⟨hq t ht,trivial⟩,ZbB t.2⟩
  rw[<- e] at pr
  exact d _ _ (s1.trans (Z6.new hz')) (Res.newP s1 f1 pr g1 A1 hz')
 ·exact d.elim
variable {X:Cx}
def Zle:List V->Hp->VK->Prop:=fun xs H Q=>∃p,∃kvs:List (List Key×V),xs=[.ref p]/\Rd H p (.dT kvs)/\kvs.length<=1000000/\Q (.int kvs.length) H
theorem Zck:Vx X (.builtin "len") Zle:=by
 intro pins s σ H xs us Q I r h
 obtain⟨p,kvs,rfl,hp,hz0,q⟩:=h
 obtain⟨u,rfl,rx⟩:=Qb r
 cases rx
 obtain⟨z,nm,xs,rv,o,es,ep,h1,h2,h3,h4,h5⟩:=(show JG X.prog X.w H s.heap p (.dT kvs) from Zfk I.hok hp)
 obtain⟨g1,g2⟩:=ZdQ rv
 have hes:es.size=kvs.length:=by rw[<- ZsP,h4,ZsI,g1]
 refine Zj0 nm ⟨o,h1,h2,h3⟩ (by omega) ?_
 rw[hes]
 exact⟨.int kvs.length,H,I.kept (t':=s.toks+1+1) (fun b o e=>e),⟨_,rfl⟩,q⟩
end
noncomputable def Zhw(xs:List PV):Rr PV:=match xs with
 |[.box _ (.dt ks) ys]=>if ks.length=ys.length/\ks.length<=1000000 then .ok (.int ks.length) else .bad
 |_=>.bad
theorem ZdE{p:Option Addr}{ks:List (List Key)}{ys:List PV}(h:ks.length=ys.length)(hz:ks.length<=1000000):Zhw [.box p (.dt ks) ys]=.ok (.int ks.length):=if_pos ⟨h,hz⟩
section
variable {K:W.Frag}{EX:PX->Hp->Prop}{Γ Γ':List Md}{ta:TA}{fa:List PV->Rr (List PV)}
theorem Zgt(ha:DAA K EX Γ Γ' ta fa):DE K EX Γ Γ' .P (tCB Zle ta) (fun ρ=>(fa ρ).bind Zhw):=by
 refine ZcS (fun {H xs vs Q} h z e=>?_) (fun xs e h=>?_) ha
 ·unfold Zhw at e
  split at e
  ·rename_i p ks ys
   split at e
   ·rename_i hc
    cases e
    obtain⟨v,rfl,a,ws,u,rfl,⟨hr,_⟩,⟨_,hl,rfl⟩,_⟩:=VX h
    refine⟨rfl,fun q=>⟨a,_,rfl,hr,by rw[ZtT];omega, ?_⟩⟩
    have:(ks.zip ws).length=ks.length:=by rw[ZtT];omega
    rw[this]
    exact q _ rfl
   ·cases e
  ·cases e
 ·unfold Zhw at h
  split at h
  ·split at h<;>cases h
  ·cases h
end
end L2
namespace My
open PySem PySem.Spec PyProof.Rows L2
noncomputable def Zcb(p:Int):PV:=.tup [.str "sow",.int p]
noncomputable def rkQ(y:List Int×Int):PV:=.tup [Zcu y.1,.int y.2]
noncomputable def Zaa(P x:List Int):PV:=rkQ (x,rkB P x)
theorem ZbA{α:Type}:∀(ks:List (List Key)) (k:List Key) (y:α),Zfe ks (List.replicate ks.length y) k y=List.replicate ks.length y
 |[],_,_=>rfl
 |k'::ks,k,y=>by
  show (if k'=k then y else y)::Zfe ks (List.replicate ks.length y) k y=y::List.replicate ks.length y
  rw[ZbA ks k y]
  congr 1
  split<;>rfl
noncomputable def ZeD(d:Int):List Int->Int
 |[]=>d
 |v::L=>ZeD (if 1+v>d then 1+v else d) L
theorem ZbZ(v:Int):∀(L:List Int) (d:Int),ZeD d (L++[v])=if 1+v>ZeD d L then 1+v else ZeD d L
 |[],_=>rfl
 |x::L,d=>ZbZ v L _
theorem Zgg:∀(L:List Int) (d:Int),d<=ZeD d L/\∀v∈L,1+v<=ZeD d L
 |[],d=>⟨Zub _,by simp⟩
 |x::L,d=>by
  obtain⟨h1,h2⟩:=Zgg L (if 1+x>d then 1+x else d)
  have:d<=(if 1+x>d then 1+x else d)/\1+x<=(if 1+x>d then 1+x else d):=by split<;>omega
  refine⟨Zvc this.1 h1,fun v hv=>?_⟩
  rcases ZsT.mp hv with rfl|hv
  ·exact Zvc this.2 h1
  ·exact h2 v hv
theorem Zgf:∀(L:List Int) (d:Int),ZeD d L=d\/∃v∈L,ZeD d L=1+v
 |[],d=>.inl rfl
 |x::L,d=>by
  rcases Zgf L (if 1+x>d then 1+x else d) with h|⟨v,hv,h⟩
  ·show ZeD (if 1+x>d then 1+x else d) L=d\/_
   rw[h]
   split
   ·exact .inr ⟨x,by simp,by show ZeD (if 1+x>d then 1+x else d) L=_;rw[h,if_pos (by assumption)]⟩
   ·exact .inl rfl
  ·exact .inr ⟨v,by simp[hv],h⟩
theorem Zkk{L:List Int}(h:∀v∈L,0<=v):ZeD 0 L=gR L:=by
 by_cases hn:L=[]
 ·subst hn;rfl
 ·rw[ZhV hn]
  obtain⟨_,h2⟩:=Zgg L 0
  refine ZfG ?_ fun a ha=>?_
  ·rcases Zgf L 0 with e|⟨v,hv,e⟩
   ·obtain⟨v,hv⟩:=ZtN L hn
    have:=h2 v hv
    have:=h v hv
    omega
   ·rw[e];exact ZsV.mpr ⟨v,hv,by omega⟩
  ·obtain⟨v,hv,rfl⟩:=ZsV.mp ha
   have:=h2 v hv
   omega
noncomputable def ZfL(P b:List Int)(M:List (List Int))(i:Nat):List (List Int):=(M.take i).foldl (fun L x=>(Jn P x).foldl qsB L) [b]
theorem ZbP{P b:List Int}{M:List (List Int)}{i:Nat}{x:List Int}(h:M[i]?=some x):ZfL P b M (i+1)=(Jn P x).foldl qsB (ZfL P b M i):=by
 unfold ZfL
 rw[Zuq,h,Zur];rfl
structure Znq(P b:List Int)(M:List (List Int))(i:Nat)(L:List (List Int)):Prop where
 nd:L.Nodup
 re:∀x∈L,Rch P b x
 b0:b∈L
 al:∀x∈M.take i,∀y∈Jn P x,y.2∈L
theorem ZcN{P b:List Int}{M:List (List Int)}(hM:∀x∈M,Rch P b x):∀i,i<=M.length->Znq P b M i (ZfL P b M i)
 |0,_=>⟨by simp[ZfL],fun x hx=>by
  have hx:x=b:=by simpa[ZfL] using hx
  rw[hx];exact .refl,by simp[ZfL],by simp⟩
 |i+1,hi=>by
  have I:=ZcN hM i (by omega)
  have hx:M[i]?=some (M[i]'(by omega)):=ZsH (by omega)
  have rx:=hM _ (ZsK hx)
  rw[ZbP hx]
  obtain⟨a1,a2,⟨e,a3⟩,a4⟩:=ZaH (R:=Rch P b) I.nd I.re (S:=Jn P (M[i]'(by omega))) fun y hy=>by
   obtain⟨y1,y2,y3⟩:=Jl.mp hy
   rw[y3];exact .step rx y1 y2
  refine⟨a1,a2,by rw[a3];exact ZsQ _ I.b0,fun x hx' y hy=>?_⟩
  rw[Zuq,hx] at hx'
  rcases ZsO.mp hx' with z|z
  ·rw[a3];exact ZsQ _ (I.al x z y hy)
  ·have:x=M[i]:=by simpa using z
   subst this
   exact a4 y hy
theorem V3.lat{n:Nat}{s:Int}{l b:List Int}(h:V3 n s l b):(ZfL (Zc n l) b (JF (Zc n l) b) (JF (Zc n l) b).length).length=(JF (Zc n l) b).length:=by
 have I:=ZcN (P:=Zc n l) (b:=b) (M:=JF (Zc n l) b) (fun x hx=>h.f.com.mp hx) _ (ZsN _)
 refine List.Perm.length_eq ((List.perm_ext_iff_of_nodup I.nd (QW _ _)).mpr fun x=>⟨fun hx=>h.f.com.mpr (I.re x hx),fun hx=>?_⟩)
 have rx:=h.f.com.mp hx
 clear hx
 induction rx with
 |refl=>exact I.b0
 |@step y p hy hp h0 ih=>exact I.al y (by rw[ZtR];exact h.f.com.mpr hy) (p,Vz y p) (Jl.mpr ⟨hp,h0,rfl⟩)
theorem V3.led{n:Nat}{s:Int}{l b:List Int}(h:V3 n s l b):∀i:Nat,(i:Int)<=rkB (Zc n l) b->ZaZ b ((List.range i).map fun j=>(My.stR (Zc n l) (plB (Zc n l) b j)).1)=plB (Zc n l) b i
 |0,_=>rfl
 |i+1,hi=>by
  rw[ZtZ,Zty,ZsW,Zua,ZbO,h.led i (by omega)]
  obtain⟨r1,r2⟩:=h.pl i (by omega)
  obtain⟨_,m,e⟩:=(h.go r1).stR (by omega)
  exact(Jl.mp m).2.2.symm
theorem V3.pl_end{n:Nat}{s:Int}{l b:List Int}(h:V3 n s l b):ZaZ b (plP (Zc n l) b)=plB (Zc n l) b (rkB (Zc n l) b).toNat/\Rch (Zc n l) b (ZaZ b (plP (Zc n l) b))/\Jn (Zc n l) (ZaZ b (plP (Zc n l) b))=[]:=by
 have k0:=ZaE (Zc n l) b
 have e:=h.led (rkB (Zc n l) b).toNat (by omega)
 obtain⟨r1,r2⟩:=h.pl (rkB (Zc n l) b).toNat (by omega)
 unfold plP
 rw[e]
 refine⟨rfl,r1, ?_⟩
 have hr:=(h.go r1).rk
 apply Classical.byContradiction
 intro c
 have hn:((Jn (Zc n l) (plB (Zc n l) b (rkB (Zc n l) b).toNat)).map fun y=>rkB (Zc n l) y.2)≠[]:=by simpa using c
 rw[ZhV hn] at hr
 obtain⟨v,hv⟩:=ZtN _ hn
 have:=ZcL (ns:=((Jn (Zc n l) (plB (Zc n l) b (rkB (Zc n l) b).toNat)).map fun y=>rkB (Zc n l) y.2).map (·+1)) (ZsV.mpr ⟨v,hv,rfl⟩)
 obtain⟨y,_,rfl⟩:=ZsV.mp hv
 have:=ZaE (Zc n l) y.2
 omega
theorem V3.pl_ok{n:Nat}{s:Int}{l b:List Int}(h:V3 n s l b){t:Nat}(ht:t<(plP (Zc n l) b).length):((plP (Zc n l) b).getD t 0∈Zc n l)/\0<(ZaZ b ((plP (Zc n l) b).take t)).getD ((plP (Zc n l) b).getD t 0).toNat 0:=by
 have k0:=ZaE (Zc n l) b
 have hl:(plP (Zc n l) b).length=(rkB (Zc n l) b).toNat:=by simp[plP]
 rw[hl] at ht
 obtain⟨r1,r2⟩:=h.pl t (by omega)
 obtain⟨_,m,e⟩:=(h.go r1).stR (by omega)
 obtain⟨m1,m2,m3⟩:=Jl.mp m
 have e1:(plP (Zc n l) b).getD t 0=(My.stR (Zc n l) (plB (Zc n l) b t)).1:=by
  unfold plP
  rw[ZsG,ZsM,Zt6 ht];rfl
 have e2:ZaZ b ((plP (Zc n l) b).take t)=plB (Zc n l) b t:=by
  rw[<- h.led t (by omega)]
  congr 1
  unfold plP
  rw[<- List.map_take,List.take_range]
  congr 2
  omega
 rw[e1,e2]
 exact⟨m1,m2⟩
end My
namespace L2
theorem Zjc:(10:Nat)^61<2^60000:=by
 calc (10:Nat)^61<=(2^4)^61:=ZuO (by decide) _
  _=2^244:=by rw[<- Nat.pow_mul]
  _<2^60000:=ZuJ (by decide) (by decide)
end L2
namespace My
open PySem L2
seal PE PT PA PS PSs DE DT DAA DAF DS
theorem Zk{K:W.Frag}{EX:_}{Γ:List Md}{i:Nat}(h:Γ[i]?=some .S):DE K EX Γ Γ .A (Za9 i) (fun ρ=>.ok (gv i ρ)):=Zs h (by decide)
noncomputable def top(i:Nat):Stmt:=PySem.Challenge.pw_sowring_k27_whole_longest_play.main.body.getD i (.Pass ⟨0,0,0,0⟩)
noncomputable abbrev ZoU:Stmt:=top 39
theorem Zq3:Zx ["script", "k"] ["script", "k"] (Zn ZoU):=⟨rfl,rfl,rfl,by decide +kernel,rfl,by decide +kernel,by decide +kernel⟩
theorem Zpo:Zu "_law_cell_at" ZoU ["script", "k"]:=fun _ _ _ _ _ _ us hl=>by obtain⟨_,_,rfl⟩:=us2 hl;rfl
noncomputable abbrev ZoS:Stmt:=top 41
theorem ZpM:Zx ["cell", "j", "first"] ["cell", "j"] (Zn ZoS):=⟨rfl,rfl,rfl,by decide +kernel,rfl,by decide +kernel,by decide +kernel⟩
theorem Zpn:Zu "_law_stirred" ZoS ["cell", "j"]:=fun _ _ _ _ _ _ us hl=>by obtain⟨_,_,rfl⟩:=us2 hl;rfl
noncomputable abbrev ZpZ:Stmt:=top 45
theorem ZoI:Zx ["script", "cell", "pits", "seeds"] ["script"] (Zn ZpZ):=⟨rfl,rfl,rfl,by decide +kernel,rfl,by decide +kernel,by decide +kernel⟩
theorem Zsg:Zu "_law_few" ZpZ ["script"]:=fun _ _ _ _ _ _ us hl=>by obtain⟨_,rfl⟩:=us1 hl;rfl
noncomputable abbrev Zp7:Stmt:=top 40
theorem ZoY:Zx ["script", "later", "most", "sums", "k", "at"] ["script", "later", "most"] (Zn Zp7):=⟨rfl,rfl,rfl,by decide +kernel,rfl,by decide +kernel,by decide +kernel⟩
theorem ZrC:Zu "_law_sums" Zp7 ["script", "later", "most"]:=fun _ _ _ _ _ _ us hl=>by obtain⟨_,_,_,rfl⟩:=us3 hl;rfl
noncomputable abbrev ZpX:Stmt:=top 42
theorem Zoo:Zx ["script", "skip", "many", "base", "mixed", "sums", "total", "row", "j"] ["script", "skip", "many", "base", "mixed"] (Zn ZpX):=⟨rfl,rfl,rfl,by decide +kernel,rfl,by decide +kernel,by decide +kernel⟩
theorem Zse:Zu "_law_row" ZpX ["script", "skip", "many", "base", "mixed"]:=fun _ _ _ _ _ _ us hl=>by obtain⟨_,_,_,_,_,rfl⟩:=us5 hl;rfl
noncomputable abbrev Zp9:Stmt:=top 44
theorem ZpN:Zx ["places", "pits", "board", "at"] ["places", "pits"] (Zn Zp9):=⟨rfl,rfl,rfl,by decide +kernel,rfl,by decide +kernel,by decide +kernel⟩
theorem ZrD:Zu "_law_laid" Zp9 ["places", "pits"]:=fun _ _ _ _ _ _ us hl=>by obtain⟨_,_,rfl⟩:=us2 hl;rfl
noncomputable abbrev ZpA:Stmt:=top 46
theorem ZoZ:Zx ["script", "pits", "cell", "bars"] ["script", "pits"] (Zn ZpA):=⟨rfl,rfl,rfl,by decide +kernel,rfl,by decide +kernel,by decide +kernel⟩
theorem ZrE:Zu "_law_bars" ZpA ["script", "pits"]:=fun _ _ _ _ _ _ us hl=>by obtain⟨_,_,rfl⟩:=us2 hl;rfl
noncomputable abbrev ZpV:Stmt:=top 10
theorem ZrL:Zx ["value"] ["value"] (Zn ZpV):=⟨rfl,rfl,rfl,by decide +kernel,rfl,by decide +kernel,by decide +kernel⟩
theorem Zsc:Zu "is_whole" ZpV ["value"]:=fun _ _ _ _ _ _ us hl=>by obtain⟨_,rfl⟩:=us1 hl;rfl
noncomputable abbrev ZoE:Stmt:=top 11
theorem Zq1:Zx ["value", "least"] ["value", "least"] (Zn ZoE):=⟨rfl,rfl,rfl,by decide +kernel,rfl,by decide +kernel,by decide +kernel⟩
theorem ZpH:Zu "is_whole_from" ZoE ["value", "least"]:=fun _ _ _ _ _ _ us hl=>by obtain⟨_,_,rfl⟩:=us2 hl;rfl
noncomputable abbrev Zof:Stmt:=top 12
theorem ZoH:Zx ["values"] ["values"] (Zn Zof):=⟨rfl,rfl,rfl,by decide +kernel,rfl,by decide +kernel,by decide +kernel⟩
theorem ZpJ:Zu "is_list_from_nought" Zof ["values"]:=fun _ _ _ _ _ _ us hl=>by obtain⟨_,rfl⟩:=us1 hl;rfl
noncomputable abbrev Zpt:Stmt:=top 9
theorem Zrc:Zx [] [] (Zn Zpt):=⟨rfl,rfl,rfl,by decide +kernel,rfl,by decide +kernel,by decide +kernel⟩
theorem Zro:Zu "most_seeds" Zpt []:=fun _ _ _ _ _ _ us hl=>match us,hl with | [],_=>rfl
noncomputable abbrev ZpW:Stmt:=top 13
theorem ZrM:Zx ["board"] ["board"] (Zn ZpW):=⟨rfl,rfl,rfl,by decide +kernel,rfl,by decide +kernel,by decide +kernel⟩
theorem Zsd:Zu "is_board" ZpW ["board"]:=fun _ _ _ _ _ _ us hl=>by obtain⟨_,rfl⟩:=us1 hl;rfl
noncomputable abbrev Zpf:Stmt:=top 14
theorem ZqI:Zx ["board"] ["board"] (Zn Zpf):=⟨rfl,rfl,rfl,by decide +kernel,rfl,by decide +kernel,by decide +kernel⟩
theorem ZqW:Zu "check_board" Zpf ["board"]:=fun _ _ _ _ _ _ us hl=>by obtain⟨_,rfl⟩:=us1 hl;rfl
noncomputable abbrev Zp5:Stmt:=top 16
theorem Zqy:Zx ["numbers"] ["numbers"] (Zn Zp5):=⟨rfl,rfl,rfl,by decide +kernel,rfl,by decide +kernel,by decide +kernel⟩
theorem ZrB:Zu "is_rising" Zp5 ["numbers"]:=fun _ _ _ _ _ _ us hl=>by obtain⟨_,rfl⟩:=us1 hl;rfl
noncomputable abbrev Zq2:Stmt:=top 15
theorem Zs3:Zx ["board", "pit"] ["board", "pit"] (Zn Zq2):=⟨rfl,rfl,rfl,by decide +kernel,rfl,by decide +kernel,by decide +kernel⟩
theorem Zs7:Zu "is_pit" Zq2 ["board", "pit"]:=fun _ _ _ _ _ _ us hl=>by obtain⟨_,_,rfl⟩:=us2 hl;rfl
noncomputable abbrev ZoR:Stmt:=top 17
theorem ZpL:Zx ["board", "barred"] ["board", "barred"] (Zn ZoR):=⟨rfl,rfl,rfl,by decide +kernel,rfl,by decide +kernel,by decide +kernel⟩
theorem ZqG:Zu "check_barred" ZoR ["board", "barred"]:=fun _ _ _ _ _ _ us hl=>by obtain⟨_,_,rfl⟩:=us2 hl;rfl
noncomputable abbrev ZoQ:Stmt:=top 19
theorem ZoC:Zx ["pits", "seeds", "count", "k"] ["pits", "seeds"] (Zn ZoQ):=⟨rfl,rfl,rfl,by decide +kernel,rfl,by decide +kernel,by decide +kernel⟩
theorem ZqF:Zu "count_boards" ZoQ ["pits", "seeds"]:=fun _ _ _ _ _ _ us hl=>by obtain⟨_,_,rfl⟩:=us2 hl;rfl
noncomputable abbrev Zor:Stmt:=top 24
theorem Zqd:Zx ["board"] ["board"] (Zn Zor):=⟨rfl,rfl,rfl,by decide +kernel,rfl,by decide +kernel,by decide +kernel⟩
theorem Zqg:Zu "check_few_boards" Zor ["board"]:=fun _ _ _ _ _ _ us hl=>by obtain⟨_,rfl⟩:=us1 hl;rfl
noncomputable abbrev Zpv:Stmt:=top 28
theorem Zrd:Zx ["board", "barred"] ["board", "barred"] (Zn Zpv):=⟨rfl,rfl,rfl,by decide +kernel,rfl,by decide +kernel,by decide +kernel⟩
theorem Zrr:Zu "check_play" Zpv ["board", "barred"]:=fun _ _ _ _ _ _ us hl=>by obtain⟨_,_,rfl⟩:=us2 hl;rfl
noncomputable abbrev Zp6:Stmt:=top 30
theorem ZpK:Zx ["board", "barred"] ["board", "barred"] (Zn Zp6):=⟨rfl,rfl,rfl,by decide +kernel,rfl,by decide +kernel,by decide +kernel⟩
theorem Zpx:Zu "free_pits" Zp6 ["board", "barred"]:=fun _ _ _ _ _ _ us hl=>by obtain⟨_,_,rfl⟩:=us2 hl;rfl
noncomputable abbrev ZoN:Stmt:=top 37
theorem Zpi:Zx ["board", "barred", "pit", "steps"] ["board", "barred", "pit"] (Zn ZoN):=⟨rfl,rfl,rfl,by decide +kernel,rfl,by decide +kernel,by decide +kernel⟩
theorem ZqC:Zu "steps_to_bar" ZoN ["board", "barred", "pit"]:=fun _ _ _ _ _ _ us hl=>by obtain⟨_,_,_,rfl⟩:=us3 hl;rfl
noncomputable abbrev Zqk:Stmt:=top 21
theorem Zo1:Zx ["board", "pit", "pits", "rounds", "over", "other", "last", "step"] ["board", "pit"] (Zn Zqk):=⟨rfl,rfl,rfl,by decide +kernel,rfl,by decide +kernel,by decide +kernel⟩
theorem Zsx:Zu "sow_pit" Zqk ["board", "pit"]:=fun _ _ _ _ _ _ us hl=>by obtain⟨_,_,rfl⟩:=us2 hl;rfl
noncomputable abbrev Zpq:Stmt:=top 26
theorem Zp2:Zx ["board", "pits"] ["board", "pits"] (Zn Zpq):=⟨rfl,rfl,rfl,by decide +kernel,rfl,by decide +kernel,by decide +kernel⟩
theorem ZpE:Zu "sowings_of" Zpq ["board", "pits"]:=fun _ _ _ _ _ _ us hl=>by obtain⟨_,_,rfl⟩:=us2 hl;rfl
noncomputable abbrev Zps:Stmt:=top 25
theorem Zpd:Zx ["level", "pits", "came_from", "found", "board", "step"] ["level", "pits", "came_from"] (Zn Zps):=⟨rfl,rfl,rfl,by decide +kernel,rfl,by decide +kernel,by decide +kernel⟩
theorem Zrn:Zu "next_level" Zps ["level", "pits", "came_from"]:=fun _ _ _ _ _ _ us hl=>by obtain⟨_,_,_,rfl⟩:=us3 hl;rfl
noncomputable abbrev Zp4:Stmt:=top 29
theorem ZoX:Zx ["board", "barred", "pits", "came_from", "level"] ["board", "barred"] (Zn Zp4):=⟨rfl,rfl,rfl,by decide +kernel,rfl,by decide +kernel,by decide +kernel⟩
theorem ZrA:Zu "walk_from" Zp4 ["board", "barred"]:=fun _ _ _ _ _ _ us hl=>by obtain⟨_,_,rfl⟩:=us2 hl;rfl
noncomputable abbrev Zpu:Stmt:=top 31
theorem Zqj:Zx ["board", "pits"] ["board", "pits"] (Zn Zpu):=⟨rfl,rfl,rfl,by decide +kernel,rfl,by decide +kernel,by decide +kernel⟩
theorem Zrp:Zu "free_seeds" Zpu ["board", "pits"]:=fun _ _ _ _ _ _ us hl=>by obtain⟨_,_,rfl⟩:=us2 hl;rfl
noncomputable abbrev Zou:Stmt:=top 36
theorem ZoA:Zx ["board", "pits", "steps"] ["board", "pits", "steps"] (Zn Zou):=⟨rfl,rfl,rfl,by decide +kernel,rfl,by decide +kernel,by decide +kernel⟩
theorem Zqs:Zu "seeds_and_steps" Zou ["board", "pits", "steps"]:=fun _ _ _ _ _ _ us hl=>by obtain⟨_,_,_,rfl⟩:=us3 hl;rfl
noncomputable abbrev Zpa:Stmt:=top 35
theorem Zpe:Zx ["board", "barred", "pits", "steps"] ["board", "barred"] (Zn Zpa):=⟨rfl,rfl,rfl,by decide +kernel,rfl,by decide +kernel,by decide +kernel⟩
theorem Zrq:Zu "ends_first" Zpa ["board", "barred"]:=fun _ _ _ _ _ _ us hl=>by obtain⟨_,_,rfl⟩:=us2 hl;rfl
noncomputable abbrev Zpr:Stmt:=top 33
theorem ZoB:Zx ["board", "barred", "pits", "ranks", "found"] ["board", "barred"] (Zn Zpr):=⟨rfl,rfl,rfl,by decide +kernel,rfl,by decide +kernel,by decide +kernel⟩
theorem Zrm:Zu "ranks_from" Zpr ["board", "barred"]:=fun _ _ _ _ _ _ us hl=>by obtain⟨_,_,rfl⟩:=us2 hl;rfl
noncomputable abbrev ZoO:Stmt:=top 34
theorem Zpj:Zx ["board", "pits", "ranks", "steps"] ["board", "pits", "ranks"] (Zn ZoO):=⟨rfl,rfl,rfl,by decide +kernel,rfl,by decide +kernel,by decide +kernel⟩
theorem ZqD:Zu "step_to_rank" ZoO ["board", "pits", "ranks"]:=fun _ _ _ _ _ _ us hl=>by obtain⟨_,_,_,rfl⟩:=us3 hl;rfl
noncomputable abbrev ZoP:Stmt:=top 32
theorem Zoa:Zx ["board", "barred", "pits", "ranks", "plan", "now", "step"] ["board", "barred"] (Zn ZoP):=⟨rfl,rfl,rfl,by decide +kernel,rfl,by decide +kernel,by decide +kernel⟩
theorem ZqE:Zu "longest_play" ZoP ["board", "barred"]:=fun _ _ _ _ _ _ us hl=>by obtain⟨_,_,rfl⟩:=us2 hl;rfl
noncomputable abbrev Zp8:Stmt:=top 43
theorem Zo2:Zx ["board", "pit", "pits", "seeds", "made", "k", "at"] ["board", "pit"] (Zn Zp8):=⟨rfl,rfl,rfl,by decide +kernel,rfl,by decide +kernel,by decide +kernel⟩
theorem Zq0:Zu "_law_sown" Zp8 ["board", "pit"]:=fun _ _ _ _ _ _ us hl=>by obtain⟨_,_,rfl⟩:=us2 hl;rfl
noncomputable abbrev ZpY:Stmt:=top 48
theorem Zp3:Zx ["board", "plan", "bars", "here", "deed"] ["board", "plan", "bars"] (Zn ZpY):=⟨rfl,rfl,rfl,by decide +kernel,rfl,by decide +kernel,by decide +kernel⟩
theorem Zsf:Zu "_law_led" ZpY ["board", "plan", "bars"]:=fun _ _ _ _ _ _ us hl=>by obtain⟨_,_,_,rfl⟩:=us3 hl;rfl
noncomputable abbrev ZoT:Stmt:=top 49
theorem ZoD:Zx ["ranks", "met", "k", "pair"] ["ranks"] (Zn ZoT):=⟨rfl,rfl,rfl,by decide +kernel,rfl,by decide +kernel,by decide +kernel⟩
theorem ZqH:Zu "_law_numbers" ZoT ["ranks"]:=fun _ _ _ _ _ _ us hl=>by obtain⟨_,rfl⟩:=us1 hl;rfl
noncomputable abbrev Zpg:Stmt:=top 47
theorem Zpy:Zx ["board", "bars", "told", "pit"] ["board", "bars"] (Zn Zpg):=⟨rfl,rfl,rfl,by decide +kernel,rfl,by decide +kernel,by decide +kernel⟩
theorem Zqb:Zu "_law_behind" Zpg ["board", "bars"]:=fun _ _ _ _ _ _ us hl=>by obtain⟨_,_,rfl⟩:=us2 hl;rfl
noncomputable abbrev Zos:Stmt:=top 50
theorem ZnZ:Zx ["ranks", "met", "board", "bars", "later", "pair", "due", "other"] ["ranks", "met", "board", "bars"] (Zn Zos):=⟨rfl,rfl,rfl,by decide +kernel,rfl,by decide +kernel,by decide +kernel⟩
theorem Zqh:Zu "_law_ranks_right" Zos ["ranks", "met", "board", "bars"]:=fun _ _ _ _ _ _ us hl=>by obtain⟨_,_,_,_,rfl⟩:=us4 hl;rfl
noncomputable abbrev Zs9:Stmt:=top 51
theorem Zpc:Zx ["script", "pits", "seeds", "row", "board", "bars", "handed", "told", "plan", "ranks", "here", "met", "kept", "k"] ["script"] (Zn Zs9):=⟨rfl,rfl,rfl,by decide +kernel,rfl,by decide +kernel,by decide +kernel⟩
theorem ZsE:Zu "law" Zs9 ["script"]:=fun _ _ _ _ _ _ us hl=>by obtain⟨_,rfl⟩:=us1 hl;rfl
structure Txt(K:PySem.W.Frag)(mg:Str->Option Value):Prop where
 Zp0:Dfn K mg "_law_cell_at" ZoU
 Zpz:Dfn K mg "_law_stirred" ZoS
 Zsr:Dfn K mg "_law_few" ZpZ
 ZrU:Dfn K mg "_law_sums" Zp7
 Zsp:Dfn K mg "_law_row" ZpX
 ZrV:Dfn K mg "_law_laid" Zp9
 ZrW:Dfn K mg "_law_bars" ZpA
 Zsn:Dfn K mg "is_whole" ZpV
 ZpP:Dfn K mg "is_whole_from" ZoE
 ZpQ:Dfn K mg "is_list_from_nought" Zof
 Zr1:Dfn K mg "most_seeds" Zpt
 Zso:Dfn K mg "is_board" ZpW
 Zrk:Dfn K mg "check_board" Zpf
 ZrT:Dfn K mg "is_rising" Zp5
 ZsA:Dfn K mg "is_pit" Zq2
 ZqO:Dfn K mg "check_barred" ZoR
 ZqN:Dfn K mg "count_boards" ZoQ
 Zqm:Dfn K mg "check_few_boards" Zor
 Zr4:Dfn K mg "check_play" Zpv
 ZpC:Dfn K mg "free_pits" Zp6
 ZqK:Dfn K mg "steps_to_bar" ZoN
 Zs5:Dfn K mg "sow_pit" Zqk
 ZpO:Dfn K mg "sowings_of" Zpq
 Zr0:Dfn K mg "next_level" Zps
 ZrS:Dfn K mg "walk_from" Zp4
 Zr2:Dfn K mg "free_seeds" Zpu
 Zqv:Dfn K mg "seeds_and_steps" Zou
 Zr3:Dfn K mg "ends_first" Zpa
 Zrz:Dfn K mg "ranks_from" Zpr
 ZqL:Dfn K mg "step_to_rank" ZoO
 ZqM:Dfn K mg "longest_play" ZoP
 ZqA:Dfn K mg "_law_sown" Zp8
 Zsq:Dfn K mg "_law_led" ZpY
 ZqP:Dfn K mg "_law_numbers" ZoT
 Zqo:Dfn K mg "_law_behind" Zpg
 Zqn:Dfn K mg "_law_ranks_right" Zos
 ZsF:Dfn K mg "law" Zs9
 c_FEWEST_PITS:∃t,mg "FEWEST_PITS"=some (.int 2 t)
 c_MOST_BOARDS:∃t,mg "MOST_BOARDS"=some (.int 1000 t)
 c_MOST_PITS:∃t,mg "MOST_PITS"=some (.int 24 t)
 z_all:mg "all"=none
 z_bool:mg "bool"=none
 z_enumerate:mg "enumerate"=none
 z_int:mg "int"=none
 z_isinstance:mg "isinstance"=none
 z_len:mg "len"=none
 z_list:mg "list"=none
 z_max:mg "max"=none
 z_range:mg "range"=none
 z_sorted:mg "sorted"=none
 z_sum:mg "sum"=none
 z_tuple:mg "tuple"=none
 l_lam:ZlC K=true
section
variable {P:Program}{w:World}{K:W.Frag}{mg:Str->Option Value}{base:Heap}
set_option hygiene false
local macro_rules | `(tactic| walk_at "pd")=>`(tactic| try simp -implicitDefEqProofs (disch:=first|omega|(simp only[ZsI,Ztw,Zu1,ZuB,Ztq,Zu3,ZsY,ZtK,ZuZ,Jh];omega)|decide) only[Zkf,Zkg,ZuT,List.set_cons_succ,Zuf,ZtP,Zfj,Zfi,Zuc,Rr.bind_ok,Rr.bind_exc,Rr.bind_bad,Rr.thenS_ok,RS.seq_next,RS.seq_ret,RS.out_next,RS.out_ret,   ZjN,ZjE,Zln,Zlo,Zlx,Zly,Zkh,ZhS,ZhT,Zmp,Zk3,Ziw,Zlr,Zk4,Zlu,Zlt,Zls,Zhy,Zlq,Zlp,ZhM,ZhN,ZhL,ZhK,ZjL,ZaN,ZjK,Zlz,Zf0,ZjH,ZmS,ZmT,Zfw,Ztq,Zu3,Bool.not_true,Bool.not_false,Bool.false_eq_true,if_true,if_false,Nat.reduceAdd,Nat.reduceSub,id,ZsW,Zua,Int.reduceToNat,Zez,ZaL,ZmU,Zl6,Zl5,Zk2,Zh0,Znk,ZhR,Zh5,Nat.reduceLeDiff,ZsN,Int.reduceLT,Int.reduceLE,Int.reduceEq,decide_true,decide_false,
 Qn,Q8,ZbK,Zf6,Zhu,ZdC,Zhq,QI,Zew,QC,Zmj,Ziq,Zh4,beq_self_eq_true,Bool.and_true,Bool.true_and,Bool.and_false,Bool.false_and,Zlm,])
local macro_rules | `(tactic| walk_at "lo")=>`(tactic| first|exact Or.inl rfl|exact Or.inr rfl)
local macro_rules | `(tactic| walk_at "in")=>`(tactic| (simp only[List.cons.injEq,PV.lst.injEq,PV.int.injEq,PV.str.injEq,PV.bl.injEq,PV.tup.injEq,ZdU,and_true] at e ⊢;first|(simp only[e];done)|(subst e;rfl)|(rw[e])))
set_option hygiene true
noncomputable def Zon:Pm:=⟨List Int×Int,fun a=>[.lst (a.1.map PV.int),.int a.2],fun a=>0<=a.2,fun a=>.ok (.int (Jq a.1 a.2.toNat))⟩
theorem Zpm(T:Txt K mg){f:Addr}{fd:FuncData}(F:Fun K "_law_cell_at" "_law_cell_at" ZoU f fd):JB P w K mg base CX0 1 f fd ["script", "k"] (spF K 2 .P W0 Zon.fn):=by
 refine F.okP Zq3 rfl rfl (fun cdv A outer s H E hr=>?_)
 have hu:=hr.units
 refine⟨_,_,⟨[],[],[],.P⟩,rfl,(Zd (Jv (Z8 ZcF (pv 1) (Zr (Z5 (K:=K)) rfl T.z_len Jf (Za (pv 0) Zf)) (ZE _)) (Zl (Z0 (Z7 Jd (ZC (Zp (K:=K)) (pv 0) (pv 1) (fun _ _=>rfl)) (Z7 ZbL Zh Zh)))) ZF)
   (Zl (Z0 Zh))),
   (Zm (Γm:=[.S,.S]) (Jw (Z3 (DE.toA (ZeH (Zk (i:=1) rfl) (DE.toA (Ji (Zb (Zk (i:=0) rfl) Ze))))))
   (ZK (Je (Zw (te:=tC .non) (Zk (i:=0) rfl) (Zk (i:=1) rfl)) (DE.toA (Zcd (DE.toA Zi) (DE.toA Zi)))))
   ZH)
   (ZK Zi)), ?_⟩
 refine Pm.ref Zon (g:=fun xs=>_) ?_
 rintro⟨ns,k⟩ (hk:0<=k)
 simp only[Zon]
 walk_at "pd"
 unfold Jq
 by_cases h:k<ns.length
 ·rw[decide_eq_true h]
  walk_at "pd"
 ·rw[decide_eq_false h]
  walk_at "pd"
  rw[Zbd (by omega)];rfl
theorem ZoW{ns:List Int}{k:Int}(h:0<=k):Zon.fn [.lst (ns.map PV.int),.int k]=.ok (.int (Jq ns k.toNat)):=Pm.fn_eq Zon (ns,k) h fun(a:List Int×Int) e=>by simp only[Zon] at e ⊢;walk_at "in"
noncomputable def Zom:Pm:=⟨Int×Int,fun a=>[.int a.1,.int a.2],fun a=>0<=a.2/\a.2<=1000000,fun a=>.ok (.int (stir a.1 a.2))⟩
theorem Zpl(T:Txt K mg){f:Addr}{fd:FuncData}(F:Fun K "_law_stirred" "_law_stirred" ZoS f fd):JB P w K mg base CX0 1 f fd ["cell", "j"] (spF K 2 .P W0 Zom.fn):=by
 refine F.okP ZpM rfl rfl (fun cdv A outer s H E hr=>?_)
 have hu:=hr.units
 refine⟨_,_,⟨[],[],[],.P⟩,rfl,(Zd (Zz (i:=2) ZpM.nd rfl (by walk_at "lo") (Z7 Jd (Z7 Um (Z7 Jx (Z7 Jx (Z7 Jd (pv 0) Zh) (Z7 Um Zh (pv 1))) Zh) Zh) Zh))
   (Zl (Z0 (Z7 J4 (Z7 Jd (Z7 Um (pv 2) (pv 2)) Zh) Zh)))),
   (Zm (Γm:=[.S,.S,.P]) (ZJ (i:=2) (Je (DE.toA (QS (DE.toA (Jy (DE.toA (Jy (DE.toA (Je (Zk (i:=0) rfl) (DE.toA Zi))) (DE.toA (QS (DE.toA Zi) (Zk (i:=1) rfl))))) (DE.toA Zi))) (DE.toA Zi))) (DE.toA Zi)) (by decide))
   (ZK (Ud (DE.toA (Je (DE.toA (QS (DE.toA (Zj (i:=2) rfl)) (DE.toA (Zj (i:=2) rfl)))) (DE.toA Zi))) (DE.toA Zi)))), ?_⟩
 refine Pm.ref Zom (g:=fun xs=>_) ?_
 rintro⟨c,j⟩ ⟨h0,h1⟩
 simp only at h0 h1
 simp only[Zom]
 walk_at "pd"
 rfl
theorem ZoV{c j:Int}(h:0<=j/\j<=1000000):Zom.fn [.int c,.int j]=.ok (.int (stir c j)):=Pm.fn_eq Zom (c,j) h fun(a:Int×Int) e=>by simp only[Zom] at e ⊢;walk_at "in"
noncomputable def fwP(c:Int):Int:=if c%4=1 then 6+c/4%5 else 2+c/4%4
noncomputable def fwS(c:Int):Int:=if c%4=1 then stir c 5%4 else stir c 5%([0,0,41,11,7,5]:List Int).getD (2+c/4%4).toNat 0
noncomputable def ZoM:Pm:=⟨List Int,fun a=>[.lst (a.map PV.int)],fun _=>True,fun a=>.ok (.tup [.int (fwP (Jq a 0)),.int (fwS (Jq a 0))])⟩
theorem ZrR(T:Txt K mg){f:Addr}{fd:FuncData}(F:Fun K "_law_few" "_law_few" ZpZ f fd):JB P w K mg base CX0 2 f fd ["script"] (spF K 1 .P W0 ZoM.fn):=by
 have Zoq:=JH (P:=P) (w:=w) (base:=base) T.Zp0 Zpo (fun F=>Zpm T F)
 have Zop:=JH (P:=P) (w:=w) (base:=base) T.Zpz Zpn (fun F=>Zpl T F)
 refine F.okP ZoI rfl rfl (fun cdv A outer s H E hr=>?_)
 have hu:=hr.units
 refine⟨_,_,⟨[],[],[],.P⟩,rfl,(Zd (Zz (i:=1) ZoI.nd rfl (by walk_at "lo") (Zq Zoq (hr.mono (by decide)) rfl (Za (pv 0) (Za Zh Zf))))
   (Zd (Zz (i:=2) ZoI.nd rfl (by walk_at "lo") (Z7 Jx Zh (Z7 Jd (Z7 J4 (pv 1) Zh) Zh)))
   (Zd (Zz (i:=3) ZoI.nd rfl (by walk_at "lo") (Z7 Jd (Zq Zop (hr.mono (by decide)) rfl (Za (pv 1) (Za Zh Zf))) (ZC (Zp (K:=K)) (Vi (Za Zh (Za Zh (Za Zh (Za Zh (Za Zh (Za Zh Zf))))))) (pv 2) (fun _ _=>rfl))))
   (Zd (Jv (Z8 (Vj (K:=K) hu) (Z7 Jd (pv 1) Zh) Zh (ZE _)) (Zd (Zz (i:=2) ZoI.nd rfl (by walk_at "lo") (Z7 Jx Zh (Z7 Jd (Z7 J4 (pv 1) Zh) Zh)))
   (Zl (Zz (i:=3) ZoI.nd rfl (by walk_at "lo") (Z7 Jd (Zq Zop (hr.mono (by decide)) rfl (Za (pv 1) (Za Zh Zf))) Zh)))) ZF)
   (Zl (Z0 (JV (Za (pv 2) (Za (pv 3) Zf))))))))),
   (Zm (Γm:=[.S,.P,.U,.U]) (ZJ (i:=1) (UZ (Zg (Zg Zt)) (Zb (Zk (i:=0) rfl) (Zb (DE.toA Zi) Ze))) (by decide))
   (Zm (Γm:=[.S,.P,.P,.U]) (ZJ (i:=2) (Jy (DE.toA Zi) (DE.toA (Je (DE.toA (Ud (DE.toA (Zj (i:=1) rfl)) (DE.toA Zi))) (DE.toA Zi)))) (by decide))
   (Zm (Γm:=[.S,.P,.P,.P]) (ZJ (i:=3) (Je (DE.toA (UZ (Zg (Zg Zt)) (Zb (DE.toA (Zj (i:=1) rfl)) (Zb (DE.toA Zi) Ze)))) (Zw (te:=tC .non) (DE.toA (JS (ZA (DE.PF Zi) (ZA (DE.PF Zi) (ZA (DE.PF Zi) (ZA (DE.PF Zi) (ZA (DE.PF Zi) (ZA (DE.PF Zi) Ja)))))))) (DE.toA (Zj (i:=2) rfl)))) (by decide))
   (Zm (Γm:=[.S,.P,.P,.P]) (Jw (Z3 (DE.toA (Jm (g:=id) (DE.toA (Je (DE.toA (Zj (i:=1) rfl)) (DE.toA Zi))) (DE.toA Zi))))
   (Zm (Γm:=[.S,.P,.P,.P]) (ZJ (i:=2) (Jy (DE.toA Zi) (DE.toA (Je (DE.toA (Ud (DE.toA (Zj (i:=1) rfl)) (DE.toA Zi))) (DE.toA Zi)))) (by decide))
   (ZJ (i:=3) (Je (DE.toA (UZ (Zg (Zg Zt)) (Zb (DE.toA (Zj (i:=1) rfl)) (Zb (DE.toA Zi) Ze)))) (DE.toA Zi)) (by decide)))
   ZH)
   (ZK (DE.grd (UT (Zb (DE.toA (Zj (i:=2) rfl)) (Zb (DE.toA (Zj (i:=3) rfl)) Ze))))))))), ?_⟩
 refine Pm.ref ZoM (g:=fun xs=>_) ?_
 rintro(ns:List Int) -
 simp only[ZoM]
 walk_at "pd"
 rw[ZoW (by omega)]
 walk_at "pd"
 generalize Jq ns 0=c
 rw[ZoV ⟨by omega,by omega⟩]
 have hix:pIx (.lst [.int 0,.int 0,.int 41,.int 11,.int 7,.int 5]) (.int (2+c/4%4))=.ok (.int (([0,0,41,11,7,5]:List Int).getD (2+c/4%4).toNat 0)):=Qn (ns:=[0,0,41,11,7,5]) (by omega) (by simp only[Ztq,Zu3];omega)
 rw[hix]
 have hpos:0<([0,0,41,11,7,5]:List Int).getD (2+c/4%4).toNat 0:=by
  have:(2+c/4%4).toNat=2\/(2+c/4%4).toNat=3\/(2+c/4%4).toNat=4\/(2+c/4%4).toNat=5:=by omega
  rcases this with z|z|z|z<;>rw[z]<;>decide
 walk_at "pd"
 unfold fwP fwS
 by_cases e:c%4=1
 ·rw[decide_eq_true e,if_pos e,if_pos e]
  walk_at "pd"
  rw[ZoV ⟨by omega,by omega⟩]
  walk_at "pd"
 ·rw[decide_eq_false e,if_neg e,if_neg e]
  walk_at "pd"
theorem Zsw{ns:List Int}:ZoM.fn [.lst (ns.map PV.int)]=.ok (.tup [.int (fwP (Jq ns 0)),.int (fwS (Jq ns 0))]):=Pm.fn_eq ZoM ns trivial fun(a:List Int) e=>by simp only[ZoM] at e ⊢;walk_at "in"
noncomputable def Zo6:Pm:=⟨List Int×Int×Int,fun a=>[.lst (a.1.map PV.int),.int a.2.1,.int a.2.2],fun a=>a.1.length<=1000/\(0<=a.2.1/\a.2.1<=1000)/\0<a.2.2/\a.2.2<=1000,fun a=>.ok (.lst ((Zc1 a.1 a.2.1.toNat a.2.2.toNat).map PV.int))⟩
theorem Zrw(T:Txt K mg){f:Addr}{fd:FuncData}(F:Fun K "_law_sums" "_law_sums" Zp7 f fd):JB P w K mg base CX0 1 f fd ["script", "later", "most"] (spF K 3 .F W0 Zo6.fn):=by
 refine F.okP ZoY rfl rfl (fun cdv A outer s H E hr=>?_)
 have hu:=hr.units
 refine⟨_,_,⟨[],[],[],.F⟩,rfl,(Zd (Vq (i:=3) ZoY.nd rfl (Jc rfl T.z_range (Za (pv 2) Zf)) (Vs ZoY.nd) (fun _ _ _ _=>Zaq) (fun _ _ _ _=>Zh) hv1 rfl)
   (Zd (JK PassesOwn.never rfl (ZbD rfl T.z_range (Za (pv 1) (Za (Zr (Z5 (K:=K)) rfl T.z_len Jf (Za (pv 0) Zf)) Zf))) (ZW (i:=4) ZoY.nd rfl (by walk_at "lo")) (Zd (Zz (i:=5) ZoY.nd rfl (by walk_at "lo") (Z7 Jd (Z7 ZdH (pv 4) (pv 1)) (pv 2)))
   (Zd (UW (Z7 Jx (Z7 Um (ZC (Zp (K:=K)) (pv 3) (pv 5) (fun _ _=>rfl)) Zh) (Z7 Jd (ZC (Zp (K:=K)) (pv 0) (pv 4) (fun _ _=>rfl)) (Z7 ZbL Zh Zh))) (Zap (pv 3) (pv 5) Vo))
   (Zl (UW (Z7 Jd (ZC (Zp (K:=K)) (pv 3) (pv 5) (fun _ _=>rfl)) (Z7 ZbL Zh Zh)) (Zap (pv 3) (pv 5) Vo))))))
   (Zl (Z0 (pv 3))))),
   (Zm (Γm:=[.S,.S,.S,.O,.U,.U]) (JQ (i:=3) (Va (k:=1) (DI.c (J8 (Zb (Zk (i:=2) rfl) Ze))) Zku Zca (DE.PF Zi)) (by decide))
   (Zm (Γm:=[.S,.S,.S,.O,.U,.U]) (JR (Γl:=[.S,.S,.S,.O,.U,.U]) (Zgl (Zb (Zk (i:=1) rfl) (Zb (DE.toA (Ji (Zb (Zk (i:=0) rfl) Ze))) Ze))) rfl (ZeF (i:=4) (by decide))
   (DS.out (Y:=⟨[.S,.S,.S,.O,.P,.P],[.S,.S,.S,.O,.U,.U],[.S,.S,.S,.O,.U,.U],.F⟩) (Y':=⟨[.S,.S,.S,.O,.U,.U],[.S,.S,.S,.O,.U,.U],[.S,.S,.S,.O,.U,.U],.F⟩) (Zm (Γm:=[.S,.S,.S,.O,.P,.P]) (ZJ (i:=5) (Je (DE.toA (Zeb (DE.toA (Zj (i:=4) rfl)) (Zk (i:=1) rfl))) (Zk (i:=2) rfl)) (by decide))
   (Zm (Γm:=[.S,.S,.S,.O,.P,.P]) (Vm (i:=3) rfl (Jy (DE.toA (QS (Zw (te:=tC .non) (Zs (i:=3) (m:=.O) rfl (by decide)) (DE.toA (Zj (i:=5) rfl))) (DE.toA Zi))) (DE.toA (Je (Zw (te:=tC .non) (Zk (i:=0) rfl) (DE.toA (Zj (i:=4) rfl))) (DE.toA (Zcd (DE.toA Zi) (DE.toA Zi)))))) (DE.toA (Zj (i:=5) rfl)))
   (Vm (i:=3) rfl (Je (Zw (te:=tC .non) (Zs (i:=3) (m:=.O) rfl (by decide)) (DE.toA (Zj (i:=5) rfl))) (DE.toA (Zcd (DE.toA Zi) (DE.toA Zi)))) (DE.toA (Zj (i:=5) rfl))))) rfl rfl rfl rfl))
   (ZO (Jt (i:=3) rfl)))), ?_⟩
 refine Pm.ref Zo6 (g:=fun xs=>_) ?_
 rintro⟨ns,l,m⟩ ⟨hn,hl,h0,h1⟩
 simp only at hn hl h0 h1
 simp only[Zo6]
 walk_at "pd"
 rw[UF (p:=fun _=>true) (g:=fun _=>.int 0) (fun i hi=>rfl)]
 rw[show ((List.range m.toNat).filter fun _=>true).map (fun _=>PV.int 0)=(Uw ns l.toNat m.toNat 0).map PV.int by
  rw[show ((List.range m.toNat).filter fun _=>true)=List.range m.toNat from Zue.mpr fun _ _=>rfl,Uw,List.map_const',ZuZ,List.map_replicate]]
 walk_at "pd"
 generalize hw:QO _ _ _=W
 obtain⟨ρ',rfl,v,u,rfl⟩:=ZU hw (fun i ρ=>∃v u,ρ=[.lst (ns.map PV.int),.int l,.int m,.lst ((Uw ns l.toNat m.toNat i).map PV.int),v,u]) ⟨_,_,rfl⟩ (by
  rintro i x ρ hx ⟨v,u,rfl⟩
  obtain⟨hi,rfl⟩:=JU hx
  have hlen:(Uw ns l.toNat m.toNat i).length=m.toNat:=V6 _ _ _ _
  have m0:=Zt8 (l+(i:Int)-l) (show m≠0 by omega)
  have m1:=Ztx (l+(i:Int)-l) h0
  have e:((l+(i:Int)-l)%m).toNat=i%m.toNat:=by
   have:((i%m.toNat:Nat):Int)=(l+(i:Int)-l)%m:=by rw[Int.natCast_emod,Ztu (by omega),show l+(i:Int)-l=i by omega]
   omega
  have hb:=Zkj (P:=fun x=>0<=x/\x<10^62) (Zdx ns l.toNat m.toNat i) (by decide) ((l+(i:Int)-l)%m).toNat
  walk_at "pd"
  refine JT ⟨.int (l+(i:Int)),.int ((l+(i:Int)-l)%m), ?_⟩
  rw[List.set_set,L2.getD_set (by omega),if_pos rfl,Uw,e,show (l+(i:Int)).toNat=l.toNat+i by omega])
 walk_at "pd"
 rw[Jh]
 unfold Zc1
 rw[show ((ns.length:Int)-l).toNat=ns.length-l.toNat by omega]
theorem ZrZ{ns:List Int}{l m:Int}(h:ns.length<=1000/\(0<=l/\l<=1000)/\0<m/\m<=1000):Zo6.fn [.lst (ns.map PV.int),.int l,.int m]=.ok (.lst ((Zc1 ns l.toNat m.toNat).map PV.int)):=Pm.fn_eq Zo6 (ns,l,m) h fun(a:List Int×Int×Int) e=>by simp only[Zo6] at e ⊢;walk_at "in"
noncomputable def ZoK:Pm:=⟨List Int×Int×Int×Int×Bool,fun a=>[.lst (a.1.map PV.int),.int a.2.1,.int a.2.2.1,.int a.2.2.2.1,.bl a.2.2.2.2],fun a=>a.1.length<=1000/\(0<=a.2.1/\a.2.1<=1000)/\(0<=a.2.2.1/\a.2.2.1<=1000)/\0<a.2.2.2.1/\a.2.2.2.1<=1000000,fun a=>.ok (.lst ((Zhc a.1 a.2.1 a.2.2.1 a.2.2.2.1 a.2.2.2.2).map PV.int))⟩
theorem ZrP(T:Txt K mg){f:Addr}{fd:FuncData}(F:Fun K "_law_row" "_law_row" ZpX f fd):JB P w K mg base CX0 2 f fd ["script", "skip", "many", "base", "mixed"] (spF K 5 .F W0 ZoK.fn):=by
 have Zsj:=JH (P:=P) (w:=w) (base:=base) T.ZrU ZrC (fun F=>Zrw T F)
 have Zop:=JH (P:=P) (w:=w) (base:=base) T.Zpz Zpn (fun F=>Zpl T F)
 refine F.okP Zoo rfl rfl (fun cdv A outer s H E hr=>?_)
 have hu:=hr.units
 refine⟨_,_,⟨[],[],[],.F⟩,rfl,(Zd (Jv (J6 (pv 4)) (Zd (Zz (i:=5) Zoo.nd rfl (by walk_at "lo") (Zq Zsj (hr.mono (by decide)) rfl (Za (pv 0) (Za (pv 1) (Za (Zr (Zch rfl) rfl T.z_max ZgA (Za Zh (Za (pv 2) Zf))) Zf)))))
   (Zl (Z0 (VN (Jc rfl T.z_range (Za (pv 2) Zf)) (Vs Zoo.nd) (fun _ _ _ _=>Zaq) (fun _ _ _ _=>(Z7 Jd (Zq Zop (hr.mono (by decide)) rfl (Za (ZC (Zp (K:=K)) (pv 5) (pv 9) (fun _ _=>rfl)) (Za (pv 9) Zf))) (pv 3))) hv1 Zoo.nd rfl)))) ZF)
   (Zd (Zz (i:=6) Zoo.nd rfl (by walk_at "lo") (Zr (VI (K:=K) rfl) rfl T.z_sum Zcq (Za (JW (ZT (K:=K) (Zd8 (Zd1 (K:=K)) (pv 0) (Zfp (pv 1)) Zfq)) (fun _ _ _ _=>(Z7 Jd (pv 9) (Z7 ZbL Zh Zh))) Zoo.nd rfl) Zf)))
   (Zd (Zz (i:=7) Zoo.nd rfl (by walk_at "lo") (Vi Zf))
   (Zd (JK PassesOwn.never rfl (Jc rfl T.z_range (Za (pv 2) Zf)) (ZW (i:=8) Zoo.nd rfl (by walk_at "lo")) (Zd (JL (ZcA PySem.F.plainAttrs_list PySem.F.slot_list_append PySem.F.type_list_append JM (pv 7) (Za (Z7 Jd (pv 6) (pv 3)) Zf)))
   (Zl (Zz (i:=6) Zoo.nd rfl (by walk_at "lo") (Z7 J4 (pv 6) (pv 3))))))
   (Zl (Z0 (pv 7))))))),
   (Zm (Γm:=[.S,.S,.S,.S,.S,.U,.U,.U,.U]) (Jw (Zaz (Zk (i:=4) rfl))
   (Zm (Γm:=[.S,.S,.S,.S,.S,.O,.U,.U,.U]) (ZG (i:=5) (QU (Zg (Zg (Zg Zt))) (Zb (Zk (i:=0) rfl) (Zb (Zk (i:=1) rfl) (Zb (DE.toA (Zgr (Zb (DE.toA Zi) (Zb (Zk (i:=2) rfl) Ze)))) Ze)))) (by decide))
   (ZO (Va (k:=1) (DI.c (J8 (Zb (Zk (i:=2) rfl) Ze))) Zku Zca (DE.PF (Je (DE.toA (UZ (Zg (Zg Zt)) (Zb (Zw (te:=tC .non) (Zs (i:=5) (m:=.O) rfl (by decide)) (Zk (i:=9) rfl)) (Zb (Zk (i:=9) rfl) Ze)))) (Zk (i:=3) rfl))))))
   ZH)
   (Zm (Γm:=[.S,.S,.S,.S,.S,.U,.P,.U,.U]) (ZJ (i:=6) (Zcc (Zb (DE.toA (J5 (DI.c (Jp (DE.FZ (ZiW (Zk (i:=0) rfl) (Zgi (Zk (i:=1) rfl)) Zgj)))) (DE.PF (Je (Zk (i:=9) rfl) (DE.toA (Zcd (DE.toA Zi) (DE.toA Zi))))))) Ze)) (by decide))
   (Zm (Γm:=[.S,.S,.S,.S,.S,.U,.P,.O,.U]) (ZG (i:=7) (JS Ja) (by decide))
   (Zm (Γm:=[.S,.S,.S,.S,.S,.U,.P,.O,.U]) (JR (Γl:=[.S,.S,.S,.S,.S,.U,.P,.O,.U]) (J8 (Zb (Zk (i:=2) rfl) Ze)) rfl (ZeF (i:=8) (by decide))
   (DS.out (Y:=⟨[.S,.S,.S,.S,.S,.U,.P,.O,.P],[.S,.S,.S,.S,.S,.U,.P,.O,.U],[.S,.S,.S,.S,.S,.U,.P,.O,.U],.F⟩) (Y':=⟨[.S,.S,.S,.S,.S,.U,.P,.O,.U],[.S,.S,.S,.S,.S,.U,.P,.O,.U],[.S,.S,.S,.S,.S,.U,.P,.O,.U],.F⟩) (Zm (Γm:=[.S,.S,.S,.S,.S,.U,.P,.O,.P]) (UR (i:=7) rfl rfl (DE.PF (Je (DE.toA (Zj (i:=6) rfl)) (Zk (i:=3) rfl))))
   (ZJ (i:=6) (Ud (DE.toA (Zj (i:=6) rfl)) (Zk (i:=3) rfl)) (by decide))) rfl rfl rfl rfl))
   (ZO (Jt (i:=7) rfl)))))), ?_⟩
 refine Pm.ref ZoK (g:=fun xs=>_) ?_
 rintro⟨ns,sk,m,b,mx⟩ ⟨hn,hl,hm,h0,h1⟩
 simp only at hn hl hm h0 h1
 simp only[ZoK]
 walk_at "pd"
 unfold Zhc
 cases mx with
 |true =>
  rw[if_pos rfl]
  walk_at "pd"
  rw[show (if m>1 then m else 1)=((max 1 m.toNat:Nat):Int) by split<;>omega]
  rw[ZrZ ⟨hn,hl,by omega,by omega⟩,Zta]
  walk_at "pd"
  rw[UF (p:=fun _=>true) (g:=fun j=>.int (stir ((Zc1 ns sk.toNat (max 1 m.toNat)).getD j 0) j%b)) (fun i hi=>by
   have hlen:(Zc1 ns sk.toNat (max 1 m.toNat)).length=max 1 m.toNat:=Zb6 _ _ _
   rw[ZtW]
   walk_at "pd"
   rw[ZoV ⟨by omega,by omega⟩]
   walk_at "pd"
   rw[Zta])]
  walk_at "pd"
  rw[show ((List.range m.toNat).filter fun _=>true)=List.range m.toNat from Zue.mpr fun _ _=>rfl,Ztd]
  rfl
 |false =>
  rw[if_neg (by decide)]
  walk_at "pd"
  rw[Qp (g:=fun c=>c%10^61) (fun z _=>ZaL (by decide))]
  generalize hsum:((ns.drop sk.toNat).map fun(c:Int)=>c%10^61)=cs
  walk_at "pd"
  generalize hw:QO _ _ _=W
  obtain⟨ρ',rfl,v,rfl⟩:=ZU hw (fun i ρ=>∃v,ρ=[.lst (ns.map PV.int),.int sk,.int m,.int b,.bl false,.non,.int (ZkM cs.sum b i),.lst ((ZiV cs.sum b i).map PV.int),v]) ⟨_,rfl⟩ (by
   rintro i x ρ hx ⟨v,rfl⟩
   obtain⟨hi,rfl⟩:=JU hx
   have hlen:(ZiV cs.sum b i).length=i:=ZcP _ _ _
   walk_at "pd"
   exact JT ⟨.int (0+(i:Int)),by rw[Zgk,ZkM]⟩)
  walk_at "pd"
  rw[Jh]
theorem Zsu{ns:List Int}{sk m b:Int}{mx:Bool}(h:ns.length<=1000/\(0<=sk/\sk<=1000)/\(0<=m/\m<=1000)/\0<b/\b<=1000000):ZoK.fn [.lst (ns.map PV.int),.int sk,.int m,.int b,.bl mx]=.ok (.lst ((Zhc ns sk m b mx).map PV.int)):=Pm.fn_eq ZoK (ns,sk,m,b,mx) h fun(a:List Int×Int×Int×Int×Bool) e=>by simp only[ZoK] at e ⊢;walk_at "in"
noncomputable def lyI(n:Nat)(L:List Int):List Int:=L.foldl (fun b a=>b.set a.toNat (b.getD a.toNat 0+1)) (List.replicate n 0)
theorem ZiM{n:Nat}:∀(L:List Int) (b:List Int) (s:Int),Bs n s b->(∀a∈L,0<=a/\a<n)->Bs n (s+L.length) (L.foldl (fun b a=>b.set a.toNat (b.getD a.toNat 0+1)) b)
 |[],b,s,h,_=>by simpa using h
 |a::L,b,s,h,hL=>by
  obtain⟨l,nn,sm⟩:=h
  have ha:=hL a (by simp)
  have:=ZiM L (b.set a.toNat (b.getD a.toNat 0+1)) (s+1) ⟨by simp[l],fun x hx=>?_, ?_⟩ fun z hz=>hL z (by simp[hz])
  ·rw[Zvd,Ztq,show s+((L.length+1:Nat):Int)=s+1+L.length by omega]
   exact this
  ·rcases List.mem_or_eq_of_mem_set hx with z|z
   ·exact nn x z
   ·have:=Zga nn a.toNat
    omega
  ·rw[Qj (by omega)];omega
theorem Zl7{n:Nat}{L:List Int}(h:∀a∈L,0<=a/\a<n):Bs n L.length (lyI n L):=by
 have:=ZiM L (List.replicate n 0) 0 ⟨by simp,fun x hx=>by rw[List.eq_of_mem_replicate hx];omega,by simp⟩ h
 rw[ZtW] at this
 exact this
noncomputable def Zo8:Pm:=⟨List Int×Int,fun a=>[.lst (a.1.map PV.int),.int a.2],fun a=>(∀x∈a.1,0<=x/\x<a.2)/\0<=a.2/\a.2<=1000,fun a=>.ok (.lst ((lyI a.2.toNat a.1).map PV.int))⟩
theorem Zrx(T:Txt K mg){f:Addr}{fd:FuncData}(F:Fun K "_law_laid" "_law_laid" Zp9 f fd):JB P w K mg base CX0 1 f fd ["places", "pits"] (spF K 2 .F W0 Zo8.fn):=by
 refine F.okP ZpN rfl rfl (fun cdv A outer s H E hr=>?_)
 have hu:=hr.units
 refine⟨_,_,⟨[],[],[],.F⟩,rfl,(Zd (Q6 (i:=2) ZpN.nd rfl (Jc rfl T.z_range (Za (pv 1) Zf)) (fun _ _ _ _=>Zh) rfl)
   (Zd (JK PassesOwn.never rfl (ZT (K:=K) (pv 0)) (ZW (i:=3) ZpN.nd rfl (by walk_at "lo")) (Zl (UW (Z7 Jx (ZC (Zp (K:=K)) (pv 2) (pv 3) (fun _ _=>rfl)) Zh) (Zap (pv 2) (pv 3) Vo))))
   (Zl (Z0 (pv 2))))),
   (Zm (Γm:=[.S,.S,.O,.U]) (JQ (i:=2) (J5 (DI.c (J8 (Zb (Zk (i:=1) rfl) Ze))) (DE.PF Zi)) (by decide))
   (Zm (Γm:=[.S,.S,.O,.U]) (JR (Γl:=[.S,.S,.O,.U]) (Jp (Ve (i:=0) rfl)) rfl (ZeF (i:=3) (by decide))
   (DS.out (Y:=⟨[.S,.S,.O,.P],[.S,.S,.O,.U],[.S,.S,.O,.U],.F⟩) (Y':=⟨[.S,.S,.O,.U],[.S,.S,.O,.U],[.S,.S,.O,.U],.F⟩) (Vm (i:=2) rfl (Jy (Zw (te:=tC .non) (Zs (i:=2) (m:=.O) rfl (by decide)) (DE.toA (Zj (i:=3) rfl))) (DE.toA Zi)) (DE.toA (Zj (i:=3) rfl))) rfl rfl rfl rfl))
   (ZO (Jt (i:=2) rfl)))), ?_⟩
 refine Pm.ref Zo8 (g:=fun xs=>_) ?_
 rintro⟨L,m⟩ ⟨hL,hm,hn⟩
 simp only at hL hm hn
 obtain⟨n,rfl⟩:∃n:Nat,m=n:=⟨m.toNat,by omega⟩
 simp only[Zo8]
 walk_at "pd"
 rw[ZjU (g:=fun _=>0) (fun i hi=>rfl),Zta,show (List.range n).map (fun _=>(0:Int))=lyI n (L.take 0) by simp[lyI,List.map_const']]
 walk_at "pd"
 generalize hw:QO _ _ _=W
 obtain⟨ρ',rfl,v,rfl⟩:=ZU hw (fun i ρ=>∃v,ρ=[.lst (L.map PV.int),.int n,.lst ((lyI n (L.take i)).map PV.int),v]) ⟨_,rfl⟩ (by
  rintro i x ρ hx ⟨v,rfl⟩
  rw[ZsM] at hx
  obtain⟨a,ha,rfl⟩:=ZtD.mp hx
  obtain⟨a0,a1⟩:=hL a (ZsK ha)
  have hl:=(Zl7 (n:=n) (L:=L.take i) fun z hz=>hL z (Ztl hz)).1
  have hs:lyI n (L.take (i+1))=(lyI n (L.take i)).set a.toNat ((lyI n (L.take i)).getD a.toNat 0+1):=by
   unfold lyI
   rw[ZuW,ha,Zur];rfl
  rw[hs]
  generalize lyI n (L.take i)=bb at hl
  walk_at "pd"
  exact JT ⟨_,rfl⟩)
 walk_at "pd"
 rw[ZsI,ZtR]
theorem Zsa{L:List Int}{n:Int}(h:(∀x∈L,0<=x/\x<n)/\0<=n/\n<=1000):Zo8.fn [.lst (L.map PV.int),.int n]=.ok (.lst ((lyI n.toNat L).map PV.int)):=Pm.fn_eq Zo8 (L,n) h fun(a:List Int×Int) e=>by simp only[Zo8] at e ⊢;walk_at "in"
noncomputable def brC(ns:List Int):Int:=if Jq ns 0/2%2=1 then stir (Jq ns 1) 9 else Jq ns 1
noncomputable def brL(c:Int)(n:Nat):List Int:=((List.range n).filter fun(i:Nat)=>decide (c/2^i%2=1)).map fun(i:Nat)=>(i:Int)
noncomputable def brS(ns:List Int)(n:Nat):List Int:=if brL (brC ns) n=[]\/(brL (brC ns) n).length=n then [brC ns/4096%n] else brL (brC ns) n
structure Bar(n:Nat)(l:List Int):Prop where
 al:∀p∈l,0<=p/\p<n
 up:l.Pairwise (·<·)
 ne:l≠[]
 nn:l.length≠n
theorem Zml(ns:List Int){n:Nat}(h:2<=n):Bar n (brS ns n):=by
 unfold brS
 split
 ·have h1:=Zt8 (brC ns/4096) (show (n:Int)≠0 by omega)
  have h2:=Ztx (brC ns/4096) (show (0:Int)<n by omega)
  exact⟨fun p hp=>by rw[Ztf.mp hp];exact⟨h1,h2⟩,Zu8 _ _,by simp,by simp;omega⟩
 ·rename_i c
  refine⟨fun p hp=>?_, ?_,fun z=>c (.inl z),fun z=>c (.inr z)⟩
  ·obtain⟨i,hi,rfl⟩:=ZsV.mp hp
   have:=Ztv.mp (Zt7.mp hi).1
   omega
  ·unfold brL
   rw[ZtH]
   refine((List.pairwise_lt_range (n:=n)).filter _).imp ?_
   intro a b h
   omega
noncomputable def Zo9:Pm:=⟨List Int×Int,fun a=>[.lst (a.1.map PV.int),.int a.2],fun a=>2<=a.2/\a.2<=1000,fun a=>.ok (.lst ((brS a.1 a.2.toNat).map PV.int))⟩
theorem Zry(T:Txt K mg){f:Addr}{fd:FuncData}(F:Fun K "_law_bars" "_law_bars" ZpA f fd):JB P w K mg base CX0 2 f fd ["script", "pits"] (spF K 2 .F W0 Zo9.fn):=by
 have Zoq:=JH (P:=P) (w:=w) (base:=base) T.Zp0 Zpo (fun F=>Zpm T F)
 have Zop:=JH (P:=P) (w:=w) (base:=base) T.Zpz Zpn (fun F=>Zpl T F)
 refine F.okP ZoZ rfl rfl (fun cdv A outer s H E hr=>?_)
 have hu:=hr.units
 refine⟨_,_,⟨[],[],[],.F⟩,rfl,(Zd (Zz (i:=2) ZoZ.nd rfl (by walk_at "lo") (Zq Zoq (hr.mono (by decide)) rfl (Za (pv 0) (Za Zh Zf))))
   (Zd (Jv (Z8 (Vj (K:=K) hu) (Z7 Jd (Z7 J4 (Zq Zoq (hr.mono (by decide)) rfl (Za (pv 0) (Za Zh Zf))) Zh) Zh) Zh (ZE _)) (Zl (Zz (i:=2) ZoZ.nd rfl (by walk_at "lo") (Zq Zop (hr.mono (by decide)) rfl (Za (pv 2) (Za Zh Zf))))) ZF)
   (Zd (Vq (i:=3) ZoZ.nd rfl (Jc rfl T.z_range (Za (pv 1) Zf)) (Vs ZoZ.nd) (fun _ _ _ _=>(ZdA (fun _ _ h=>h) (Z8 (Vj (K:=K) hu) (Z7 Jd (Z7 Zl1 (pv 2) (pv 4)) Zh) Zh (ZE _)))) (fun _ _ _ _=>(pv 4)) hv1 rfl)
   (Zd (Jv (PW.pt (Vp (Z8 (Vj (K:=K) hu) (pv 3) (Vi Zf) (ZE _)) (V8 (Z8 (Vj (K:=K) hu) (Zr (Z5 (K:=K)) rfl T.z_len Jf (Za (pv 3) Zf)) (pv 1) (ZE _))))) (Zl (Z0 (Vi (Za (Z7 Jd (Z7 J4 (pv 2) Zh) (pv 1)) Zf)))) ZF)
   (Zl (Z0 (pv 3))))))),
   (Zm (Γm:=[.S,.S,.P,.U]) (ZJ (i:=2) (UZ (Zg (Zg Zt)) (Zb (Zk (i:=0) rfl) (Zb (DE.toA Zi) Ze))) (by decide))
   (Zm (Γm:=[.S,.S,.P,.U]) (Jw (Z3 (DE.toA (Jm (g:=id) (DE.toA (Je (DE.toA (Ud (DE.toA (UZ (Zg (Zg Zt)) (Zb (Zk (i:=0) rfl) (Zb (DE.toA Zi) Ze)))) (DE.toA Zi))) (DE.toA Zi))) (DE.toA Zi))))
   (ZJ (i:=2) (UZ (Zg (Zg Zt)) (Zb (DE.toA (Zj (i:=2) rfl)) (Zb (DE.toA Zi) Ze))) (by decide))
   ZH)
   (Zm (Γm:=[.S,.S,.P,.O]) (JQ (i:=3) (Va (k:=1) (DI.c (J8 (Zb (Zk (i:=1) rfl) Ze))) Zku (Z3 (DE.toA (Jm (g:=id) (DE.toA (Je (DE.toA (Zmd (DE.toA (Zj (i:=2) rfl)) (Zk (i:=4) rfl))) (DE.toA Zi))) (DE.toA Zi)))) (DE.PF (DE.grd (Zk (i:=4) rfl)))) (by decide))
   (Zm (Γm:=[.S,.S,.P,.O]) (Jw (Vt (Z3 (DE.toA (Jm (g:=id) (Zs (i:=3) (m:=.O) rfl (by decide)) (DE.toA (JS Ja))))) (Z3 (DE.toA (Jm (g:=id) (DE.toA (Ji (Zb (Zs (i:=3) (m:=.O) rfl (by decide)) Ze))) (Zk (i:=1) rfl)))))
   (ZO (JS (ZA (DE.PF (Je (DE.toA (Ud (DE.toA (Zj (i:=2) rfl)) (DE.toA Zi))) (Zk (i:=1) rfl))) Ja)))
   ZH)
   (ZO (Jt (i:=3) rfl)))))), ?_⟩
 refine Pm.ref Zo9 (g:=fun xs=>_) ?_
 rintro⟨ns,m⟩ ⟨h0,h1⟩
 simp only at h0 h1
 obtain⟨n,rfl⟩:∃n:Nat,m=n:=⟨m.toNat,by omega⟩
 simp only[Zo9]
 walk_at "pd"
 rw[ZoW (by omega)]
 walk_at "pd"
 rw[ZoW (by omega)]
 walk_at "pd"
 by_cases c:Jq ns 0/2%2=1
 ·rw[decide_eq_true c]
  walk_at "pd"
  rw[ZoV ⟨by omega,by omega⟩,show stir (Jq ns 1) 9=brC ns from (if_pos c).symm]
  walk_at "pd"
  rw[UF (p:=fun i=>decide (brC ns/2^i%2=1)) (g:=fun(i:Nat)=>.int (i:Int)) (fun i hi=>by
   rw[ZtW]
   walk_at "pd"
   rw[Zfy (by omega),Zta]
   walk_at "pd"
   by_cases e:brC ns/2^i%2=1
   ·rw[decide_eq_true e]
    walk_at "pd"
   ·rw[decide_eq_false e]
    walk_at "pd")]
  rw[Zta,show ((List.range n).filter fun i=>decide (brC ns/2^i%2=1)).map (fun(i:Nat)=>PV.int (i:Int))=(brL (brC ns) n).map PV.int by unfold brL;rw[Ztd];rfl]
  unfold brS
  generalize brL (brC ns) n=L
  walk_at "pd"
  by_cases e:L=[]\/L.length=n
  ·rw[if_pos e]
   rcases e with e|e
   ·subst e
    walk_at "pd"
   ·by_cases e2:L=[]
    ·subst e2
     walk_at "pd"
    ·rw[decide_eq_false e2]
     walk_at "pd"
     rw[decide_eq_true (by omega)]
     walk_at "pd"
  ·rw[if_neg e,decide_eq_false (fun z=>e (.inl z))]
   walk_at "pd"
   rw[decide_eq_false (fun z=>e (.inr (by omega)))]
   walk_at "pd"
 ·rw[decide_eq_false c,show Jq ns 1=brC ns from (if_neg c).symm]
  walk_at "pd"
  rw[UF (p:=fun i=>decide (brC ns/2^i%2=1)) (g:=fun(i:Nat)=>.int (i:Int)) (fun i hi=>by
   rw[ZtW]
   walk_at "pd"
   rw[Zfy (by omega),Zta]
   walk_at "pd"
   by_cases e:brC ns/2^i%2=1
   ·rw[decide_eq_true e]
    walk_at "pd"
   ·rw[decide_eq_false e]
    walk_at "pd")]
  rw[Zta,show ((List.range n).filter fun i=>decide (brC ns/2^i%2=1)).map (fun(i:Nat)=>PV.int (i:Int))=(brL (brC ns) n).map PV.int by unfold brL;rw[Ztd];rfl]
  unfold brS
  generalize brL (brC ns) n=L
  walk_at "pd"
  by_cases e:L=[]\/L.length=n
  ·rw[if_pos e]
   rcases e with e|e
   ·subst e
    walk_at "pd"
   ·by_cases e2:L=[]
    ·subst e2
     walk_at "pd"
    ·rw[decide_eq_false e2]
     walk_at "pd"
     rw[decide_eq_true (by omega)]
     walk_at "pd"
  ·rw[if_neg e,decide_eq_false (fun z=>e (.inl z))]
   walk_at "pd"
   rw[decide_eq_false (fun z=>e (.inr (by omega)))]
   walk_at "pd"
theorem Zsb{ns:List Int}{n:Int}(h:2<=n/\n<=1000):Zo9.fn [.lst (ns.map PV.int),.int n]=.ok (.lst ((brS ns n.toNat).map PV.int)):=Pm.fn_eq Zo9 (ns,n) h fun(a:List Int×Int) e=>by simp only[Zo9] at e ⊢;walk_at "in"
noncomputable def Zpk:Pm:=⟨Int,fun i=>[.int i],fun _=>True,fun _=>.ok (.bl true)⟩
theorem ZrN(T:Txt K mg){f:Addr}{fd:FuncData}(F:Fun K "is_whole" "is_whole" ZpV f fd):JB P w K mg base CX0 1 f fd ["value"] (spF K 1 .P W0 Zpk.fn):=by
 refine F.okP ZrL rfl rfl (fun cdv A outer s H E hr=>?_)
 have hu:=hr.units
 refine⟨_,_,⟨[],[],[],.P⟩,rfl,(Zl (Z0 (ZbG (Zr (ZV (K:=K) (n := "int") rfl) rfl T.z_isinstance Z2 (Za (pv 0) (Za (Jr (v:=.ty "int") rfl T.z_int Zej rfl) Zf))) (ZbE (Zlj (Zr (ZV (K:=K) (n := "bool") rfl) rfl T.z_isinstance Z2 (Za (pv 0) (Za (Jr (v:=.ty "bool") rfl T.z_bool Zda rfl) Zf)))))))),
   (ZK (Zcf (DE.toA (JZ (Zk (i:=0) rfl))) (Zme (DE.toA (JZ (Zk (i:=0) rfl)))))), ?_⟩
 refine Pm.ref Zpk (g:=fun xs=>_) ?_
 intro (i:Int) _
 simp only[Zpk]
 walk_at "pd"
theorem Zss{i:Int}:Zpk.fn [.int i]=.ok (.bl true):=Pm.fn_eq Zpk i trivial fun _ _=>rfl
noncomputable def Zoe:Pm:=⟨Int×Int,fun a=>[.int a.1,.int a.2],fun _=>True,fun a=>.ok (.bl (decide (a.2<=a.1)))⟩
theorem ZpG(T:Txt K mg){f:Addr}{fd:FuncData}(F:Fun K "is_whole_from" "is_whole_from" ZoE f fd):JB P w K mg base CX0 2 f fd ["value", "least"] (spF K 2 .P W0 Zoe.fn):=by
 have Zsy:=JH (P:=P) (w:=w) (base:=base) T.Zsn Zsc (fun F=>ZrN T F)
 refine F.okP Zq1 rfl rfl (fun cdv A outer s H E hr=>?_)
 have hu:=hr.units
 refine⟨_,_,⟨[],[],[],.P⟩,rfl,(Zl (Z0 (ZbG (Zq Zsy (hr.mono (by decide)) rfl (Za (pv 0) Zf)) (ZbE (Vr ZmV (pv 0) (pv 1) (ZE _)))))),
   (ZK (Zcf (DE.toA (UZ (Zg Zt) (Zb (Zk (i:=0) rfl) Ze))) (Zng (Zk (i:=0) rfl) (Zk (i:=1) rfl)))), ?_⟩
 refine Pm.ref Zoe (g:=fun xs=>_) ?_
 rintro⟨i,j⟩ _
 simp only[Zoe]
 walk_at "pd"
 rw[Zss]
 walk_at "pd"
theorem ZpS{i j:Int}:Zoe.fn [.int i,.int j]=.ok (.bl (decide (j<=i))):=Pm.fn_eq Zoe (i,j) trivial fun(a:Int×Int) e=>by simp only[Zoe] at e ⊢;walk_at "in"
noncomputable def ZnY:Pm:=⟨List Int,fun ns=>[.lst (ns.map PV.int)],fun ns=>ns.length<=1000000,fun ns=>.ok (.bl (decide (∀x∈ns,0<=x)))⟩
theorem ZpI(T:Txt K mg){f:Addr}{fd:FuncData}(F:Fun K "is_list_from_nought" "is_list_from_nought" Zof f fd):JB P w K mg base CX0 3 f fd ["values"] (spF K 1 .P W0 ZnY.fn):=by
 have Zpp:=JH (P:=P) (w:=w) (base:=base) T.ZpP ZpH (fun F=>ZpG T F)
 refine F.okP ZoH rfl rfl (fun cdv A outer s H E hr=>?_)
 have hu:=hr.units
 refine⟨_,_,⟨[],[],[],.P⟩,rfl,(Zl (Z0 (ZbG (Zr (ZV (K:=K) (n := "list") rfl) rfl T.z_isinstance Z2 (Za (pv 0) (Za (Jr (v:=.ty "list") rfl T.z_list J3 rfl) Zf))) (ZbE (Zr (QX (K:=K) rfl) rfl T.z_all ZgB (Za (JW (ZT (K:=K) (pv 0)) (fun _ _ _ _=>(Zq Zpp (hr.mono (by decide)) rfl (Za (pv 1) (Za Zh Zf)))) ZoH.nd rfl) Zf)))))),
   (ZK (Zcf (DE.toA (JZ (Zk (i:=0) rfl))) (Zgu (Zb (DE.toA (J5 (DI.c (Jp (Ve (i:=0) rfl))) (DE.PF (UZ (Zg (Zg Zt)) (Zb (Zk (i:=1) rfl) (Zb (DE.toA Zi) Ze)))))) Ze)))), ?_⟩
 refine Pm.ref ZnY (g:=fun xs=>_) ?_
 intro (ns:List Int) (hn:ns.length<=1000000)
 simp only[ZnY]
 walk_at "pd"
 rw[ZfH (g:=fun z=>decide (0<=z)) (fun z _=>ZpS)]
 walk_at "pd"
 rw[ZgE]
theorem ZpT{ns:List Int}(h:ns.length<=1000000):ZnY.fn [.lst (ns.map PV.int)]=.ok (.bl (decide (∀x∈ns,0<=x))):=Pm.fn_eq ZnY ns h fun(a:List Int) e=>by simp only[ZnY] at e ⊢;walk_at "in"
noncomputable def ZoF:Pm:=⟨Unit,fun _=>[],fun _=>True,fun _=>.ok (.int (10^60))⟩
theorem Zrg(T:Txt K mg){f:Addr}{fd:FuncData}(F:Fun K "most_seeds" "most_seeds" Zpt f fd):JB P w K mg base CX0 1 f fd [] (spF K 0 .P W0 ZoF.fn):=by
 refine F.okP Zrc rfl rfl (fun cdv A outer s H E hr=>?_)
 have hu:=hr.units
 refine⟨_,_,⟨[],[],[],.P⟩,rfl,(Zl (Z0 (Z7 ZbL Zh Zh))),
   (ZK (Zcd (DE.toA Zi) (DE.toA Zi))), ?_⟩
 refine Pm.ref ZoF (g:=fun xs=>_) ?_
 rintro _ _
 simp only[ZoF]
 walk_at "pd"
theorem Zr7:ZoF.fn []=.ok (.int (10^60)):=Pm.fn_eq ZoF () trivial fun _ _=>rfl
noncomputable def ZoJ:Pm:=⟨List Int,fun ns=>[.lst (ns.map PV.int)],fun ns=>ns.length<=1000,fun ns=>.ok (.bl (Ue ns))⟩
theorem ZrO(T:Txt K mg){f:Addr}{fd:FuncData}(F:Fun K "is_board" "is_board" ZpW f fd):JB P w K mg base CX0 4 f fd ["board"] (spF K 1 .P W0 ZoJ.fn):=by
 have ZpU:=JH (P:=P) (w:=w) (base:=base) T.ZpQ ZpJ (fun F=>ZpI T F)
 have ZrH:=JH (P:=P) (w:=w) (base:=base) T.Zr1 Zro (fun F=>Zrg T F)
 refine F.okP ZrM rfl rfl (fun cdv A outer s H E hr=>?_)
 have hu:=hr.units
 refine⟨_,_,⟨[],[],[],.P⟩,rfl,(Zd (Jv (J9 (J6 (Zq ZpU (hr.mono (by decide)) rfl (Za (pv 0) Zf)))) (Zl (Z0 Zab)) ZF)
   (Zd (Jv (PW.pt (Vp (Z8 ZcF (Zr (Z5 (K:=K)) rfl T.z_len Jf (Za (pv 0) Zf)) (ZaK T.c_FEWEST_PITS rfl) (ZE _)) (V8 (Z8 Ze1 (Zr (Z5 (K:=K)) rfl T.z_len Jf (Za (pv 0) Zf)) (ZaK T.c_MOST_PITS rfl) (ZE _))))) (Zl (Z0 Zab)) ZF)
   (Zl (Z0 (Vr Zl3 (Zr (VI (K:=K) rfl) rfl T.z_sum Zcq (Za (pv 0) Zf)) (Zfu ZrH (hr.mono (by decide)) rfl) (ZE _)))))),
   (Zm (Γm:=[.S]) (Jw (JA (Zaz (DE.toA (UZ (Zg Zt) (Zb (Zk (i:=0) rfl) Ze)))))
   (ZK Zah)
   ZH)
   (Zm (Γm:=[.S]) (Jw (Vt (Z3 (DE.toA (ZeH (DE.toA (Ji (Zb (Zk (i:=0) rfl) Ze))) (DE.toA Zi)))) (Z3 (DE.toA (ZeI (DE.toA (Ji (Zb (Zk (i:=0) rfl) Ze))) (DE.toA Zi)))))
   (ZK Zah)
   ZH)
   (ZK (Znf (DE.toA (Zcc (Zb (Zk (i:=0) rfl) Ze))) (DE.toA (UZ Zt Ze)))))), ?_⟩
 refine Pm.ref ZoJ (g:=fun xs=>_) ?_
 intro (ns:List Int) (hn:ns.length<=1000)
 simp only[ZoJ]
 walk_at "pd"
 rw[ZpT (by omega)]
 walk_at "pd"
 by_cases h3:∀x∈ns,0<=x
 ·rw[decide_eq_true h3]
  walk_at "pd"
  by_cases h1:(ns.length:Int)<2
  ·rw[decide_eq_true h1]
   walk_at "pd"
   rw[show Ue ns=false from decide_eq_false (by omega)]
  rw[decide_eq_false h1]
  walk_at "pd"
  by_cases h2:(24:Int)<ns.length
  ·rw[decide_eq_true h2]
   walk_at "pd"
   rw[show Ue ns=false from decide_eq_false (by omega)]
  rw[decide_eq_false h2]
  walk_at "pd"
  rw[Zr7]
  walk_at "pd"
  by_cases h4:ns.sum<=10^60
  ·rw[decide_eq_true h4,Za3.mpr ⟨by omega,by omega,h3,h4⟩]
  ·rw[decide_eq_false h4,show Ue ns=false from decide_eq_false (fun z=>h4 z.2.2.2)]
 ·rw[decide_eq_false h3]
  walk_at "pd"
  rw[show Ue ns=false from decide_eq_false (fun z=>h3 z.2.2.1)]
theorem Zst{ns:List Int}(h:ns.length<=1000):ZoJ.fn [.lst (ns.map PV.int)]=.ok (.bl (Ue ns)):=Pm.fn_eq ZoJ ns h fun(a:List Int) e=>by simp only[ZoJ] at e ⊢;walk_at "in"
noncomputable def Zoz:Pm:=⟨List Int,fun ns=>[.lst (ns.map PV.int)],fun ns=>ns.length<=1000/\Ue ns=true,fun _=>.ok .non⟩
theorem ZqJ(T:Txt K mg){f:Addr}{fd:FuncData}(F:Fun K "check_board" "check_board" Zpf f fd):JB P w K mg base CX0 5 f fd ["board"] (spF K 1 .P W0 Zoz.fn):=by
 have Zsz:=JH (P:=P) (w:=w) (base:=base) T.Zso Zsd (fun F=>ZrO T F)
 refine F.okP ZqI rfl rfl (fun cdv A outer s H E hr=>?_)
 have hu:=hr.units
 refine⟨_,_,⟨[.S],[],[],.P⟩,rfl,(Zl (Jv (J9 (J6 (Zq Zsz (hr.mono (by decide)) rfl (Za (pv 0) Zf)))) (Zl U4) ZF)),
   (Jw (JA (Zaz (DE.toA (UZ (Zg Zt) (Zb (Zk (i:=0) rfl) Ze)))))
   UG
   ZH), ?_⟩
 refine Pm.ref Zoz (g:=fun xs=>_) ?_
 rintro(ns:List Int) ⟨hn,h⟩
 simp only[Zoz]
 walk_at "pd"
 rw[Zst hn,h]
 walk_at "pd"
theorem Zrl{ns:List Int}(h:ns.length<=1000/\Ue ns=true):Zoz.fn [.lst (ns.map PV.int)]=.ok .non:=Pm.fn_eq Zoz ns h fun _ _=>rfl
noncomputable def riB(l:List Int):Bool:=(List.range (l.length-1)).all fun i=>decide (l.getD i 0<l.getD (i+1) 0)
noncomputable def Zo4:Pm:=⟨List Int,fun a=>[.lst (a.map PV.int)],fun a=>a.length<=100000,fun a=>.ok (.bl (riB a))⟩
theorem Zrv(T:Txt K mg){f:Addr}{fd:FuncData}(F:Fun K "is_rising" "is_rising" Zp5 f fd):JB P w K mg base CX0 1 f fd ["numbers"] (spF K 1 .P W0 Zo4.fn):=by
 refine F.okP Zqy rfl rfl (fun cdv A outer s H E hr=>?_)
 have hu:=hr.units
 refine⟨_,_,⟨[],[],[],.P⟩,rfl,(Zl (Z0 (Zr (QX (K:=K) rfl) rfl T.z_all ZgB (Za (JW (Jc rfl T.z_range (Za (Z7 ZdH (Zr (Z5 (K:=K)) rfl T.z_len Jf (Za (pv 0) Zf)) Zh) Zf)) (fun _ _ _ _=>(Vr ZcF (ZC (Zp (K:=K)) (pv 0) (pv 1) (fun _ _=>rfl)) (ZC (Zp (K:=K)) (pv 0) (Z7 Jx (pv 1) Zh) (fun _ _=>rfl)) (ZE _))) Zqy.nd rfl) Zf)))),
   (ZK (Zgu (Zb (DE.toA (J5 (DI.c (J8 (Zb (DE.toA (Zeb (DE.toA (Ji (Zb (Zk (i:=0) rfl) Ze))) (DE.toA Zi))) Ze))) (DE.PF (ZeH (Zw (te:=tC .non) (Zk (i:=0) rfl) (Zk (i:=1) rfl)) (Zw (te:=tC .non) (Zk (i:=0) rfl) (DE.toA (Jy (Zk (i:=1) rfl) (DE.toA Zi)))))))) Ze))), ?_⟩
 refine Pm.ref Zo4 (g:=fun xs=>_) ?_
 rintro(l:List Int) (hl:l.length<=100000)
 simp only[Zo4]
 walk_at "pd"
 rw[ZhA (g:=fun(i:Nat)=>PV.bl (decide (l.getD i 0<l.getD (i+1) 0))) (fun i hi=>by
  rw[ZtW]
  walk_at "pd"
  rw[Zta,show ((i:Int)+1).toNat=i+1 by omega])]
 rw[show (List.range ((l.length:Int)-1).toNat).map (fun(i:Nat)=>PV.bl (decide (l.getD i 0<l.getD (i+1) 0)))=((List.range (l.length-1)).map fun(i:Nat)=>decide (l.getD i 0<l.getD (i+1) 0)).map PV.bl by rw[Ztd,show ((l.length:Int)-1).toNat=l.length-1 by omega];rfl]
 walk_at "pd"
 unfold riB
 rw[List.all_map];rfl
theorem ZrY{l:List Int}(h:l.length<=100000):Zo4.fn [.lst (l.map PV.int)]=.ok (.bl (riB l)):=Pm.fn_eq Zo4 l h fun(a:List Int) e=>by simp only[Zo4] at e ⊢;walk_at "in"
noncomputable def Zp1:Pm:=⟨List Int×Int,fun a=>[.lst (a.1.map PV.int),.int a.2],fun _=>True,fun a=>.ok (.bl (decide (0<=a.2/\a.2<a.1.length)))⟩
theorem Zs4(T:Txt K mg){f:Addr}{fd:FuncData}(F:Fun K "is_pit" "is_pit" Zq2 f fd):JB P w K mg base CX0 3 f fd ["board", "pit"] (spF K 2 .P W0 Zp1.fn):=by
 have Zpp:=JH (P:=P) (w:=w) (base:=base) T.ZpP ZpH (fun F=>ZpG T F)
 refine F.okP Zs3 rfl rfl (fun cdv A outer s H E hr=>?_)
 have hu:=hr.units
 refine⟨_,_,⟨[],[],[],.P⟩,rfl,(Zl (Z0 (ZbG (Zq Zpp (hr.mono (by decide)) rfl (Za (pv 1) (Za Zh Zf))) (ZbE (Vr ZcF (pv 1) (Zr (Z5 (K:=K)) rfl T.z_len Jf (Za (pv 0) Zf)) (ZE _)))))),
   (ZK (Zcf (DE.toA (UZ (Zg (Zg Zt)) (Zb (Zk (i:=1) rfl) (Zb (DE.toA Zi) Ze)))) (ZeH (Zk (i:=1) rfl) (DE.toA (Ji (Zb (Zk (i:=0) rfl) Ze)))))), ?_⟩
 refine Pm.ref Zp1 (g:=fun xs=>_) ?_
 rintro⟨ns,p⟩ -
 simp only[Zp1]
 walk_at "pd"
 rw[ZpS]
 walk_at "pd"
 by_cases h0:0<=p
 ·rw[decide_eq_true h0]
  walk_at "pd"
  by_cases h1:p<ns.length
  ·rw[decide_eq_true h1,show decide (0<=p/\p<(ns.length:Int))=true from decide_eq_true ⟨h0,h1⟩]
  ·rw[decide_eq_false h1,show decide (0<=p/\p<(ns.length:Int))=false from decide_eq_false (fun z=>h1 z.2)]
 ·rw[decide_eq_false h0,show decide (0<=p/\p<(ns.length:Int))=false from decide_eq_false (fun z=>h0 z.1)]
  walk_at "pd"
theorem ZsB{ns:List Int}{p:Int}:Zp1.fn [.lst (ns.map PV.int),.int p]=.ok (.bl (decide (0<=p/\p<ns.length))):=Pm.fn_eq Zp1 (ns,p) trivial fun(a:List Int×Int) e=>by simp only[Zp1] at e ⊢;walk_at "in"
def Zm9(n:Nat)(l:List Int):Prop:=(∀p∈l,0<=p/\p<n)/\riB l=true/\l.length≠0/\l.length≠n
noncomputable def Zot:Pm:=⟨List Int×List Int,fun a=>[.lst (a.1.map PV.int),.lst (a.2.map PV.int)],fun a=>(a.1.length<=1000/\a.2.length<=1000)/\Zm9 a.1.length a.2,fun _=>.ok .non⟩
theorem Zq8(T:Txt K mg){f:Addr}{fd:FuncData}(F:Fun K "check_barred" "check_barred" ZoR f fd):JB P w K mg base CX0 4 f fd ["board", "barred"] (spF K 2 .P W0 Zot.fn):=by
 have Zsi:=JH (P:=P) (w:=w) (base:=base) T.ZrT ZrB (fun F=>Zrv T F)
 have ZsC:=JH (P:=P) (w:=w) (base:=base) T.ZsA Zs7 (fun F=>Zs4 T F)
 refine F.okP ZpL rfl rfl (fun cdv A outer s H E hr=>?_)
 have hu:=hr.units
 refine⟨_,_,⟨[.S,.S],[],[],.P⟩,rfl,(Zd (Jv (PW.pt (Vp (J9 (J6 (Zr (ZV (K:=K) (n := "list") rfl) rfl T.z_isinstance Z2 (Za (pv 1) (Za (Jr (v:=.ty "list") rfl T.z_list J3 rfl) Zf))))) (V8 (J9 (J6 (Zr (QX (K:=K) rfl) rfl T.z_all ZgB (Za (JW (ZT (K:=K) (pv 1)) (fun _ _ _ _=>(Zq ZsC (hr.mono (by decide)) rfl (Za (pv 0) (Za (pv 2) Zf)))) ZpL.nd rfl) Zf))))))) (Zl U4) ZF)
   (Zd (Jv (J9 (J6 (Zq Zsi (hr.mono (by decide)) rfl (Za (pv 1) Zf)))) (Zl U4) ZF)
   (Zl (Jv (PW.pt (Vp (Z8 (Vj (K:=K) hu) (Zr (Z5 (K:=K)) rfl T.z_len Jf (Za (pv 1) Zf)) Zh (ZE _)) (V8 (Z8 (Vj (K:=K) hu) (Zr (Z5 (K:=K)) rfl T.z_len Jf (Za (pv 1) Zf)) (Zr (Z5 (K:=K)) rfl T.z_len Jf (Za (pv 0) Zf)) (ZE _))))) (Zl U4) ZF)))),
   (Zm (Γm:=[.S,.S]) (Jw (Vt (JA (Zaz (DE.toA (JZ (Zk (i:=1) rfl))))) (JA (Zaz (DE.toA (Zgu (Zb (DE.toA (J5 (DI.c (Jp (Ve (i:=1) rfl))) (DE.PF (UZ (Zg (Zg Zt)) (Zb (Zk (i:=0) rfl) (Zb (Zk (i:=2) rfl) Ze)))))) Ze))))))
   UG
   ZH)
   (Zm (Γm:=[.S,.S]) (Jw (JA (Zaz (DE.toA (UZ (Zg Zt) (Zb (Zk (i:=1) rfl) Ze)))))
   UG
   ZH)
   (Jw (Vt (Z3 (DE.toA (Jm (g:=id) (DE.toA (Ji (Zb (Zk (i:=1) rfl) Ze))) (DE.toA Zi)))) (Z3 (DE.toA (Jm (g:=id) (DE.toA (Ji (Zb (Zk (i:=1) rfl) Ze))) (DE.toA (Ji (Zb (Zk (i:=0) rfl) Ze)))))))
   UG
   ZH))), ?_⟩
 refine Pm.ref Zot (g:=fun xs=>_) ?_
 rintro⟨b,l⟩ ⟨⟨hb,hl⟩,h1,h2,h3,h4⟩
 simp only at hb hl h1 h2 h3 h4
 simp only[Zot]
 walk_at "pd"
 rw[ZfH (g:=fun z=>decide (0<=z/\z<(b.length:Int))) (fun z _=>ZsB)]
 walk_at "pd"
 rw[ZgE,decide_eq_true h1]
 walk_at "pd"
 rw[ZrY (by omega),h2]
 walk_at "pd"
 rw[decide_eq_false (show ¬(l.length:Int)=0 by omega)]
 walk_at "pd"
 rw[decide_eq_false (show ¬(l.length:Int)=b.length by omega)]
 walk_at "pd"
theorem ZqU{b l:List Int}(h:(b.length<=1000/\l.length<=1000)/\Zm9 b.length l):Zot.fn [.lst (b.map PV.int),.lst (l.map PV.int)]=.ok .non:=Pm.fn_eq Zot (b,l) h fun _ _=>rfl
theorem Zni:(10:Nat)^61<2^60000:=by
 calc (10:Nat)^61<=(2^4)^61:=ZuO (by decide) _
  _=2^244:=by rw[<- Nat.pow_mul]
  _<2^60000:=ZuJ (by decide) (by decide)
noncomputable def Zol:Pm:=⟨Int×Int,fun a=>[.int a.1,.int a.2],fun a=>(1<=a.1/\a.1<=24)/\a.2<=10^60,fun a=>.ok (.int (cbN a.1 a.2))⟩
theorem Zq7(T:Txt K mg){f:Addr}{fd:FuncData}(F:Fun K "count_boards" "count_boards" ZoQ f fd):JB P w K mg base CX0 1 f fd ["pits", "seeds"] (spF K 2 .P W0 Zol.fn):=by
 refine F.okP ZoC rfl rfl (fun cdv A outer s H E hr=>?_)
 have hu:=hr.units
 refine⟨_,_,⟨[],[],[],.P⟩,rfl,(Zd (Jv (Z8 ZcF (pv 1) Zh (ZE _)) (Zl (Z0 Zh)) ZF)
   (Zd (Zz (i:=2) ZoC.nd rfl (by walk_at "lo") Zh)
   (Zd (JK PassesOwn.never rfl (ZbD rfl T.z_range (Za Zh (Za (pv 0) Zf))) (ZW (i:=3) ZoC.nd rfl (by walk_at "lo")) (Zl (Zz (i:=2) ZoC.nd rfl (by walk_at "lo") (Z7 J4 (Z7 Um (pv 2) (Z7 Jx (pv 1) (pv 3))) (pv 3)))))
   (Zl (Z0 (pv 2)))))),
   (Zm (Γm:=[.S,.S,.U,.U]) (Jw (Z3 (DE.toA (ZeH (Zk (i:=1) rfl) (DE.toA Zi))))
   (ZK Zi)
   ZH)
   (Zm (Γm:=[.S,.S,.P,.U]) (ZJ (i:=2) Zi (by decide))
   (Zm (Γm:=[.S,.S,.P,.U]) (JR (Γl:=[.S,.S,.P,.U]) (Zgl (Zb (DE.toA Zi) (Zb (Zk (i:=0) rfl) Ze))) rfl (ZeF (i:=3) (by decide))
   (DS.out (Y:=⟨[.S,.S,.P,.P],[.S,.S,.P,.U],[.S,.S,.P,.U],.P⟩) (Y':=⟨[.S,.S,.P,.U],[.S,.S,.P,.U],[.S,.S,.P,.U],.P⟩) (ZJ (i:=2) (Ud (DE.toA (QS (DE.toA (Zj (i:=2) rfl)) (DE.toA (Jy (Zk (i:=1) rfl) (DE.toA (Zj (i:=3) rfl)))))) (DE.toA (Zj (i:=3) rfl))) (by decide)) rfl rfl rfl rfl))
   (ZK (Zj (i:=2) rfl))))), ?_⟩
 refine Pm.ref Zol (g:=fun xs=>_) ?_
 rintro⟨p,s⟩ ⟨⟨hp0,hp⟩,hs⟩
 simp only at hp0 hp hs
 simp only[Zol]
 unfold cbN
 walk_at "pd"
 by_cases h:s<0
 ·rw[decide_eq_true h,if_pos h]
  walk_at "pd"
 ·rw[decide_eq_false h,if_neg h]
  walk_at "pd"
  generalize hw:QO _ _ _=W
  obtain⟨ρ',rfl,v,rfl⟩:=ZU hw (fun i ρ=>∃v,ρ=[.int p,.int s,.int (cbI s i),v]) ⟨_,rfl⟩ (by
   rintro i x ρ hx ⟨v,rfl⟩
   obtain⟨hi,rfl⟩:=JU hx
   walk_at "pd"
   rw[ZcE ⟨Zg3 (by omega) hs (by omega),ZtI (show (s+(1+(i:Int))).natAbs<=10^61 by omega) Zni⟩]
   walk_at "pd"
   exact JT ⟨.int (1+(i:Int)),by rw[cbI,Int.add_comm 1 (i:Int)]⟩)
  walk_at "pd"
  rw[Jh]
theorem ZqT{p s:Int}(h:(1<=p/\p<=24)/\s<=10^60):Zol.fn [.int p,.int s]=.ok (.int (cbN p s)):=Pm.fn_eq Zol (p,s) h fun(a:Int×Int) e=>by simp only[Zol] at e ⊢;walk_at "in"
noncomputable def Zob:Pm:=⟨List Int,fun a=>[.lst (a.map PV.int)],fun a=>((1<=a.length/\a.length<=24)/\a.sum<=10^60)/\¬1000<cbN a.length a.sum,fun _=>.ok .non⟩
theorem Zqe(T:Txt K mg){f:Addr}{fd:FuncData}(F:Fun K "check_few_boards" "check_few_boards" Zor f fd):JB P w K mg base CX0 2 f fd ["board"] (spF K 1 .P W0 Zob.fn):=by
 have ZqZ:=JH (P:=P) (w:=w) (base:=base) T.ZqN ZqF (fun F=>Zq7 T F)
 refine F.okP Zqd rfl rfl (fun cdv A outer s H E hr=>?_)
 have hu:=hr.units
 refine⟨_,_,⟨[.S],[],[],.P⟩,rfl,(Zl (Jv (Z8 Ze1 (Zq ZqZ (hr.mono (by decide)) rfl (Za (Zr (Z5 (K:=K)) rfl T.z_len Jf (Za (pv 0) Zf)) (Za (Zr (VI (K:=K) rfl) rfl T.z_sum Zcq (Za (pv 0) Zf)) Zf))) (ZaK T.c_MOST_BOARDS rfl) (ZE _)) (Zl U4) ZF)),
   (Jw (Z3 (DE.toA (ZeI (DE.toA (UZ (Zg (Zg Zt)) (Zb (DE.toA (Ji (Zb (Zk (i:=0) rfl) Ze))) (Zb (DE.toA (Zcc (Zb (Zk (i:=0) rfl) Ze))) Ze)))) (DE.toA Zi))))
   UG
   ZH), ?_⟩
 refine Pm.ref Zob (g:=fun xs=>_) ?_
 rintro(b:List Int) ⟨⟨⟨h0,h1⟩,h2⟩,c⟩
 simp only[Zob]
 walk_at "pd"
 rw[ZqT ⟨⟨by omega,by omega⟩,h2⟩]
 walk_at "pd"
 rw[decide_eq_false c]
 walk_at "pd"
theorem Zqp{b:List Int}(h:((1<=b.length/\b.length<=24)/\b.sum<=10^60)/\¬1000<cbN b.length b.sum):Zob.fn [.lst (b.map PV.int)]=.ok .non:=Pm.fn_eq Zob b h fun _ _=>rfl
def QZ(b l:List Int):Prop:=Zmw b/\Zm9 b.length l/\cbN b.length b.sum<=1000/\l.length<=1000
noncomputable def ZoG:Pm:=⟨List Int×List Int,fun a=>[.lst (a.1.map PV.int),.lst (a.2.map PV.int)],fun a=>QZ a.1 a.2,fun _=>.ok .non⟩
theorem Zrj(T:Txt K mg){f:Addr}{fd:FuncData}(F:Fun K "check_play" "check_play" Zpv f fd):JB P w K mg base CX0 6 f fd ["board", "barred"] (spF K 2 .P W0 ZoG.fn):=by
 have Zrs:=JH (P:=P) (w:=w) (base:=base) T.Zrk ZqW (fun F=>ZqJ T F)
 have Zra:=JH (P:=P) (w:=w) (base:=base) T.ZqO ZqG (fun F=>Zq8 T F)
 have Zqt:=JH (P:=P) (w:=w) (base:=base) T.Zqm Zqg (fun F=>Zqe T F)
 refine F.okP Zrd rfl rfl (fun cdv A outer s H E hr=>?_)
 have hu:=hr.units
 refine⟨_,_,⟨[.S,.S],[],[],.P⟩,rfl,(Zd (JL (Zq Zrs (hr.mono (by decide)) rfl (Za (pv 0) Zf)))
   (Zd (JL (Zq Zra (hr.mono (by decide)) rfl (Za (pv 0) (Za (pv 1) Zf))))
   (Zl (JL (Zq Zqt (hr.mono (by decide)) rfl (Za (pv 0) Zf)))))),
   (Zm (Γm:=[.S,.S]) (Zbk (DE.toA (UZ (Zg Zt) (Zb (Zk (i:=0) rfl) Ze))))
   (Zm (Γm:=[.S,.S]) (Zbk (DE.toA (UZ (Zg (Zg Zt)) (Zb (Zk (i:=0) rfl) (Zb (Zk (i:=1) rfl) Ze)))))
   (Zbk (DE.toA (UZ (Zg Zt) (Zb (Zk (i:=0) rfl) Ze)))))), ?_⟩
 refine Pm.ref ZoG (g:=fun xs=>_) ?_
 rintro⟨b,l⟩ ⟨B,h2,h3,h4⟩
 simp only at B h2 h3 h4
 simp only[ZoG]
 have l1:=B.lo
 have l2:=B.hi
 have l3:=B.sm
 walk_at "pd"
 rw[Zrl ⟨by omega,Za3.mpr B⟩]
 walk_at "pd"
 rw[ZqU ⟨⟨by omega,h4⟩,h2⟩]
 walk_at "pd"
 rw[Zqp ⟨⟨⟨by omega,by omega⟩,l3⟩,by omega⟩]
 walk_at "pd"
theorem Zr9{b l:List Int}(h:QZ b l):ZoG.fn [.lst (b.map PV.int),.lst (l.map PV.int)]=.ok .non:=Pm.fn_eq ZoG (b,l) h fun _ _=>rfl
theorem Zhk{b l:List Int}(h:QZ b l):b.length<=24/\2<=b.length/\(b.sum<=10^60/\V3 b.length b.sum l b):=by
 obtain⟨B,h2,h3,h4⟩:=h
 have l1:=B.lo
 obtain⟨q,hq⟩:=ZtN l (fun z=>h2.2.2.1 (by rw[z];rfl))
 exact⟨B.hi,B.lo,B.sm,⟨by omega,fun p hp=>(Vl.mp hp).1,⟨rfl,B.nn,rfl⟩,by omega⟩,q,hq,h2.1 q hq⟩
noncomputable def Zo5:Pm:=⟨List Int×List Int,fun a=>[.lst (a.1.map PV.int),.lst (a.2.map PV.int)],fun a=>a.1.length<=1000,fun a=>.ok (.lst ((Zc a.1.length a.2).map PV.int))⟩
theorem Zpw(T:Txt K mg){f:Addr}{fd:FuncData}(F:Fun K "free_pits" "free_pits" Zp6 f fd):JB P w K mg base CX0 1 f fd ["board", "barred"] (spF K 2 .F W0 Zo5.fn):=by
 refine F.okP ZpK rfl rfl (fun cdv A outer s H E hr=>?_)
 have hu:=hr.units
 refine⟨_,_,⟨[],[],[],.F⟩,rfl,(Zl (Z0 (VN (Jc rfl T.z_range (Za (Zr (Z5 (K:=K)) rfl T.z_len Jf (Za (pv 0) Zf)) Zf)) (Vs ZpK.nd) (fun _ _ _ _=>(ZdA (fun _ _ h=>h) (Z8 (QB (K:=K) hu) (pv 2) (pv 1) rfl))) (fun _ _ _ _=>(pv 2)) hv1 ZpK.nd rfl))),
   (ZO (Va (k:=1) (DI.c (J8 (Zb (DE.toA (Ji (Zb (Zk (i:=0) rfl) Ze))) Ze))) Zku (Z3 (DE.toA (Zec (g:=(!·)) (Zk (i:=2) rfl) (Zk (i:=1) rfl)))) (DE.PF (DE.grd (Zk (i:=2) rfl))))), ?_⟩
 refine Pm.ref Zo5 (g:=fun xs=>_) ?_
 rintro⟨b,l⟩ (hb:b.length<=1000)
 simp only[Zo5]
 walk_at "pd"
 rw[UF (p:=fun i=>decide ((i:Int) ∉ l)) (g:=fun(i:Nat)=>.int (i:Int)) (fun i hi=>by
  rw[ZtW]
  walk_at "pd"
  rw[VA]
  walk_at "pd"
  by_cases e:(i:Int)∈l
  ·rw[decide_eq_true e,decide_eq_false (fun z=>z e)]
   walk_at "pd"
  ·rw[decide_eq_false e,decide_eq_true e]
   walk_at "pd")]
 walk_at "pd"
 unfold Zc
 rw[Ztd,Zta];rfl
theorem ZpD{b l:List Int}(h:b.length<=1000):Zo5.fn [.lst (b.map PV.int),.lst (l.map PV.int)]=.ok (.lst ((Zc b.length l).map PV.int)):=Pm.fn_eq Zo5 (b,l) h fun(a:List Int×List Int) e=>by simp only[Zo5] at e ⊢;walk_at "in"
noncomputable def Zoi:Pm:=⟨List Int×List Int×Int,fun a=>[.lst (a.1.map PV.int),.lst (a.2.1.map PV.int),.int a.2.2],fun a=>a.1.length<=24/\(0<=a.2.2/\a.2.2<a.1.length)/\a.2.2 ∉ a.2.1/\∃q∈a.2.1,0<=q/\q<a.1.length,fun a=>.ok (.int (Zaf a.1.length a.2.1 a.2.2))⟩
theorem Zq4(T:Txt K mg){f:Addr}{fd:FuncData}(F:Fun K "steps_to_bar" "steps_to_bar" ZoN f fd):JB P w K mg base CX0 1 f fd ["board", "barred", "pit"] (spF K 3 .P W0 Zoi.fn):=by
 refine F.okP Zpi rfl rfl (fun cdv A outer s H E hr=>?_)
 have hu:=hr.units
 refine⟨_,_,⟨[],[],[],.P⟩,rfl,(Zd (Zz (i:=3) Zpi.nd rfl (by walk_at "lo") Zh)
   (Zd (ZaI PassesOwn.never (Z8 (QB (K:=K) hu) (Z7 Jd (Z7 Jx (pv 2) (pv 3)) (Zr (Z5 (K:=K)) rfl T.z_len Jf (Za (pv 0) Zf))) (pv 1) rfl) (Zl (Zlg (i:=3) Zpi.nd rfl (by walk_at "lo") Zh ZiQ)))
   (Zl (Z0 (pv 3))))),
   (Zm (Γm:=[.S,.S,.S,.P]) (ZJ (i:=3) Zi (by decide))
   (Zm (Γm:=[.S,.S,.S,.P]) (Zbj (Γ:=[.S,.S,.S,.P]) (Z3 (DE.toA (Zec (g:=(!·)) (DE.toA (Je (DE.toA (Jy (Zk (i:=2) rfl) (DE.toA (Zj (i:=3) rfl)))) (DE.toA (Ji (Zb (Zk (i:=0) rfl) Ze))))) (Zk (i:=1) rfl))))
   (Zkn (i:=3) rfl (DE.toA Zi)))
   (ZK (Zj (i:=3) rfl)))), ?_⟩
 refine Pm.ref Zoi (g:=fun xs=>_) ?_
 rintro⟨b,l,p⟩ ⟨hl,⟨p0,p1⟩,hp,hq⟩
 simp only at hl p0 p1 hp hq
 simp only[Zoi]
 have D:=Zbi p0 p1 hp hq
 generalize Zaf b.length l p=d at D
 have d1:=D.d1
 have dn:=D.dn
 walk_at "pd"
 generalize hw:VY _ _ _=W
 obtain⟨ρ',rfl,rfl⟩:=Ug hw (d-1) (fun i ρ=>ρ=[.lst (b.map PV.int),.lst (l.map PV.int),.int p,.int ((i:Int)+1)]) rfl (by
  rintro i ρ hi rfl
  have m:=D.min (i+1) (by omega) (by omega)
  constructor
  ·walk_at "pd"
   rw[VA]
   walk_at "pd"
   rw[show p+((i:Int)+1)=p+((i+1:Nat):Int) by omega,decide_eq_false m]
   walk_at "pd"
  ·walk_at "pd"
   exact JT (by simp)) (by
  rintro ρ rfl
  walk_at "pd"
  rw[VA]
  walk_at "pd"
  rw[show p+(((d-1:Nat):Int)+1)=p+(d:Int) by omega,decide_eq_true D.at_]
  walk_at "pd")
 walk_at "pd"
 rw[show ((d-1:Nat):Int)+1=(d:Int) by omega]
theorem ZqQ{b l:List Int}{p:Int}(h:b.length<=24/\(0<=p/\p<b.length)/\p ∉ l/\∃q∈l,0<=q/\q<b.length):Zoi.fn [.lst (b.map PV.int),.lst (l.map PV.int),.int p]=.ok (.int (Zaf b.length l p)):=Pm.fn_eq Zoi (b,l,p) h fun(a:List Int×List Int×Int) e=>by simp only[Zoi] at e ⊢;walk_at "in"
noncomputable def Zph:Pm:=⟨List Int×Int,fun a=>[.tup (a.1.map PV.int),.int a.2],fun a=>0<=a.2/\a.2<a.1.length/\a.1.length<=1000,fun a=>.ok (ZcB (ZgH a))⟩
theorem Zsm(T:Txt K mg){f:Addr}{fd:FuncData}(F:Fun K "sow_pit" "sow_pit" Zqk f fd):JB P w K mg base CX0 1 f fd ["board", "pit"] (spF K 2 .F W0 Zph.fn):=by
 refine F.okP Zo1 rfl rfl (fun cdv A outer s H E hr=>?_)
 have hu:=hr.units
 refine⟨_,_,⟨[],[],[],.F⟩,rfl,(Zd (Zz (i:=2) Zo1.nd rfl (by walk_at "lo") (Zr (Z5 (K:=K)) rfl T.z_len Jf (Za (pv 0) Zf)))
   (Zd (Zz (i:=3) Zo1.nd rfl (by walk_at "lo") (Z7 J4 (ZC (Zp (K:=K)) (pv 0) (pv 1) (fun _ _=>rfl)) (pv 2)))
   (Zd (Zz (i:=4) Zo1.nd rfl (by walk_at "lo") (Z7 Jd (ZC (Zp (K:=K)) (pv 0) (pv 1) (fun _ _=>rfl)) (pv 2)))
   (Zd (Q6 (i:=5) Zo1.nd rfl (Zj7 (K:=K) (pv 0)) (fun _ _ _ _=>(Z7 Jx (pv 8) (pv 3))) rfl)
   (Zd (UW (pv 3) (Zap (pv 5) (pv 1) Vo))
   (Zd (Zz (i:=6) Zo1.nd rfl (by walk_at "lo") (pv 1))
   (Zd (JK PassesOwn.never rfl (Jc rfl T.z_range (Za (pv 4) Zf)) (ZW (i:=7) Zo1.nd rfl (by walk_at "lo")) (Zd (Zz (i:=6) Zo1.nd rfl (by walk_at "lo") (Z7 Jd (Z7 Jx (pv 6) Zh) (pv 2)))
   (Zl (Zj5 (pv 5) (pv 6) (ZfZ (K:=K)) Zh ZiQ Vo))))
   (Zl (Z0 (JV (Za (pv 5) (Za (pv 6) Zf)))))))))))),
   (Zm (Γm:=[.S,.S,.P,.U,.U,.U,.U,.U]) (ZJ (i:=2) (Ji (Zb (Zk (i:=0) rfl) Ze)) (by decide))
   (Zm (Γm:=[.S,.S,.P,.P,.U,.U,.U,.U]) (ZJ (i:=3) (Ud (Zw (te:=tC .non) (Zk (i:=0) rfl) (Zk (i:=1) rfl)) (DE.toA (Zj (i:=2) rfl))) (by decide))
   (Zm (Γm:=[.S,.S,.P,.P,.P,.U,.U,.U]) (ZJ (i:=4) (Je (Zw (te:=tC .non) (Zk (i:=0) rfl) (Zk (i:=1) rfl)) (DE.toA (Zj (i:=2) rfl))) (by decide))
   (Zm (Γm:=[.S,.S,.P,.P,.P,.O,.U,.U]) (JQ (i:=5) (J5 (DI.c (Zma (DE.PZ (DE.grd (Zk (i:=0) rfl))))) (DE.PF (Jy (Zk (i:=8) rfl) (DE.toA (Zj (i:=3) rfl))))) (by decide))
   (Zm (Γm:=[.S,.S,.P,.P,.P,.O,.U,.U]) (Vm (i:=5) rfl (Zj (i:=3) rfl) (Zk (i:=1) rfl))
   (Zm (Γm:=[.S,.S,.P,.P,.P,.O,.P,.U]) (ZJ (i:=6) (DE.grd (Zk (i:=1) rfl)) (by decide))
   (Zm (Γm:=[.S,.S,.P,.P,.P,.O,.P,.U]) (JR (Γl:=[.S,.S,.P,.P,.P,.O,.P,.U]) (J8 (Zb (DE.toA (Zj (i:=4) rfl)) Ze)) rfl (ZeF (i:=7) (by decide))
   (DS.out (Y:=⟨[.S,.S,.P,.P,.P,.O,.P,.P],[.S,.S,.P,.P,.P,.O,.P,.U],[.S,.S,.P,.P,.P,.O,.P,.U],.F⟩) (Y':=⟨[.S,.S,.P,.P,.P,.O,.P,.U],[.S,.S,.P,.P,.P,.O,.P,.U],[.S,.S,.P,.P,.P,.O,.P,.U],.F⟩) (Zm (Γm:=[.S,.S,.P,.P,.P,.O,.P,.P]) (ZJ (i:=6) (Je (DE.toA (Jy (DE.toA (Zj (i:=6) rfl)) (DE.toA Zi))) (DE.toA (Zj (i:=2) rfl))) (by decide))
   (Zic (i:=5) rfl rfl (DE.toA (Zj (i:=6) rfl)) (DE.toA Zi))) rfl rfl rfl rfl))
   (ZO (VG (ZA (Jt (i:=5) rfl) (ZA (DE.PF (Zj (i:=6) rfl)) Ja))))))))))), ?_⟩
 refine Pm.ref Zph (g:=fun xs=>_) ?_
 rintro⟨ns,p⟩ ⟨h0,h1,h2⟩
 simp only at h0 h1 h2
 simp only[Zph]
 walk_at "pd"
 try rw[Zex]
 walk_at "pd"
 try rw[V9 h0 h1]
 walk_at "pd"
 try rw[Zf3 (Zg1 3 (by omega) (by omega))]
 walk_at "pd"
 try rw[V9 h0 h1]
 walk_at "pd"
 try rw[ZaL (show (0:Int)<ns.length by omega)]
 walk_at "pd"
 try rw[ZbW]
 walk_at "pd"
 try rw[Ziv]
 walk_at "pd"
 try rw[QI (by simp;omega)]
 walk_at "pd"
 have hc:ZaV (fun x=>ZmR x (.int (ns.getD p.toNat 0/ns.length))) (ns.map PV.int)=.ok ((ns.map fun z=>z+ns.getD p.toNat 0/ns.length).map PV.int):=by
  rw[ZfI (g:=fun x=>match x with|.int z=>PV.int (z+ns.getD p.toNat 0/ns.length)|_=>.non)]
  ·simp[Function.comp_def]
  ·intro x hx
   obtain⟨z,_,rfl⟩:=ZsV.mp hx
   rfl
 rw[hc]
 walk_at "pd"
 first|rw[Q8 h0 (by simp;omega),ZaC h0 h1]|rw[ZaC h0 h1]
 walk_at "pd"
 have o0:=Zt8 (ns.getD p.toNat 0) (show (ns.length:Int)≠0 by omega)
 have o1:=Ztx (ns.getD p.toNat 0) (show (0:Int)<ns.length by omega)
 try rw[ZdC (by omega)]
 walk_at "pd"
 generalize hs:ns.getD p.toNat 0/ns.length=rounds
 generalize ho:ns.getD p.toNat 0%ns.length=over at o0 o1
 generalize hb:(fun(x:PV) (ρ:List PV)=>_)=body
 obtain⟨ρ',e1,e2⟩:=ZdW (b:=body) (xs:=Zct 0 over.toNat) (ρ:=[.tup (ns.map PV.int),.int p,.int ns.length,.int rounds,.int over,.lst ((tab ns.length (Zbx ns p 0)).map PV.int),.int p,.non])
  (fun i ρ=>∃v,ρ=[.tup (ns.map PV.int),.int p,.int ns.length,.int rounds,.int over,.lst ((tab ns.length (Zbx ns p i)).map PV.int),.int ((p+i)%ns.length),v]) ⟨_,by rw[Int.natCast_zero,Int.add_zero,Ztt h0 h1]⟩ (by
  rintro i x ρ hx ⟨v,rfl⟩
  obtain⟨hi,rfl⟩:=JU hx
  subst hb
  have m1:=QD h0 h1 (show (0:Int)<=i by omega) (by omega)
  have m2:=QD h0 h1 (show (0:Int)<=(i:Int)+1 by omega) (by omega)
  have e:((p+(i:Int))%ns.length+1)%ns.length=(p+((i:Int)+1))%ns.length:=by
   rw[m1,m2]
   split
   ·rw[show p+(i:Int)+1=p+((i:Int)+1) by omega,m2]
   ·rw[Ztt (by omega) (by omega)];split<;>omega
  have b:0<=(p+((i:Int)+1))%ns.length/\(p+((i:Int)+1))%ns.length<ns.length:=by rw[m2];split<;>omega
  walk_at "pd"
  try rw[ZaL (by omega)]
  walk_at "pd"
  first|rw[e,Qn b.1 (by rw[Jk];exact b.2)]|rw[e]
  walk_at "pd"
  rw[Qy (by omega)]
  have hst:=Zdz h0 h1 (i:=i) (by omega)
  have hset:=Q8 (ns:=tab ns.length (Zbx ns p i)) (k:=(p+((i:Int)+1))%ns.length) (y:=Zbx ns p i ((p+((i:Int)+1))%ns.length).toNat+1) b.1 (by rw[Jk];exact b.2)
  rw[hst] at hset
  rw[hset]
  walk_at "pd"
  exact JT ⟨_,by rw[show ((i+1:Nat):Int)=(i:Int)+1 by omega]⟩)
 obtain⟨v,rfl⟩:=e2
 rw[e1]
 walk_at "pd"
 rw[Jh,Ztu o0]
 show Rr.ok (PV.tup _)=Rr.ok (PV.tup _)
 unfold ZgH Vz Zn0
 rw[ho]
theorem Zs6{ns:List Int}{p:Int}(h:0<=p/\p<ns.length/\ns.length<=1000):Zph.fn [.tup (ns.map PV.int),.int p]=.ok (ZcB (ZgH (ns,p))):=
 Pm.fn_eq Zph (ns,p) h fun⟨ns',k'⟩ e=>by
  simp only[Zph,List.cons.injEq,PV.tup.injEq,PV.int.injEq,and_true] at e ⊢
  rw[ZM e.1,e.2]
noncomputable def Zov:Pm:=⟨List Int×List Int,fun a=>[ZR a.1,.lst (a.2.map PV.int)],fun a=>(∀p∈a.2,0<=p/\p<a.1.length)/\a.1.length<=1000/\a.2.length<=1000,fun a=>.ok (.lst ((Jn a.2 a.1).map Vh))⟩
theorem ZiS{i:Int}{b:List Int}:grd (.tup [.int i,ZR b])=.ok (.tup [.int i,ZR b]):=by
 unfold grd
 simp only[PV.flat,PV.flats,JP,Bool.and_self,if_true]
theorem ZpB(T:Txt K mg){f:Addr}{fd:FuncData}(F:Fun K "sowings_of" "sowings_of" Zpq f fd):JB P w K mg base CX0 2 f fd ["board", "pits"] (spF K 2 .F W0 Zov.fn):=by
 have Zs8:=JH (P:=P) (w:=w) (base:=base) T.Zs5 Zsx (fun F=>Zsm T F)
 refine F.okP Zp2 rfl rfl (fun cdv A outer s H E hr=>?_)
 have hu:=hr.units
 refine⟨_,_,⟨[],[],[],.F⟩,rfl,(Zl (Z0 (VN (ZT (K:=K) (pv 1)) (Vs Zp2.nd) (fun _ _ _ _=>(ZdA (fun _ _ h=>h) (Z8 Ze1 (ZC (Zp (K:=K)) (pv 0) (pv 2) (fun _ _=>rfl)) Zh (ZE _)))) (fun _ _ _ _=>(JV (Za (pv 2) (Za (ZD (ZQ (K:=K)) rfl T.z_tuple Jj (Za (ZC (Zp (K:=K)) (Zq Zs8 (hr.mono (by decide)) rfl (Za (pv 0) (Za (pv 2) Zf))) Zh (fun _ _=>rfl)) Zf)) Zf)))) hv1 Zp2.nd rfl))),
   (ZO (Va (k:=1) (DI.c (Jp (Ve (i:=1) rfl))) Zku (Z3 (DE.toA (ZeI (Zw (te:=tC .non) (Zk (i:=0) rfl) (Zk (i:=2) rfl)) (DE.toA Zi)))) (DE.PF (DE.grd (UT (Zb (Zk (i:=2) rfl) (Zb (Ju (Zb (Zw (te:=tC .non) (DE.toA (QU (Zg (Zg Zt)) (Zb (Zk (i:=0) rfl) (Zb (Zk (i:=2) rfl) Ze)))) (DE.toA Zi)) Ze)) Ze))))))), ?_⟩
 refine Pm.ref Zov (g:=fun xs=>_) ?_
 rintro⟨b,Q⟩ ⟨h0,h1,h2⟩
 simp only at h0 h1 h2
 simp only[Zov]
 walk_at "pd"
 rw[Zgc (q:=PV.int) (p:=fun p=>decide (0<b.getD p.toNat 0)) (g:=fun p=>Vh (p,Vz b p)) (fun p hp=>by
  have hp':=h0 p hp
  unfold ZR
  walk_at "pd"
  rw[V9 (by omega) (by omega)]
  walk_at "pd"
  by_cases c:0<b.getD p.toNat 0
  ·rw[decide_eq_true c]
   walk_at "pd"
   rw[Zs6 ⟨by omega,by omega,h1⟩]
   simp only[ZcB,ZgH]
   walk_at "pd"
   rw[show Ua [PV.lst ((Vz b p).map PV.int)]=.ok (ZR (Vz b p)) from rfl]
   walk_at "pd"
   rw[ZiS]
   walk_at "pd"
   rfl
  ·rw[decide_eq_false c]
   walk_at "pd")]
 walk_at "pd"
 unfold Jn
 rw[Ztd];rfl
theorem ZpR{b Q:List Int}(h:(∀p∈Q,0<=p/\p<b.length)/\b.length<=1000/\Q.length<=1000):Zov.fn [ZR b,.lst (Q.map PV.int)]=.ok (.lst ((Jn Q b).map Vh)):=Pm.fn_eq Zov (b,Q) h (fun(a:List Int×List Int) e=>by
 have e':a=(b,Q):=by
  simp only[Zov,ZR,List.cons.injEq,PV.tup.injEq,PV.lst.injEq,and_true] at e
  exact Prod.ext (ZM e.1) (ZM e.2)
 rw[e'])
theorem ZlP{b:List Int}{i:Int}:grd (.tup [ZR b,.int i])=.ok (.tup [ZR b,.int i]):=by
 unfold grd
 simp only[PV.flat,PV.flats,JP,Bool.and_self,if_true]
theorem VS{t:List Int}:grd (ZR t)=.ok (ZR t):=ZbW
theorem ZeW:∀{a b:List (List Int)},a.map tI=b.map tI->a=b
 |[],[],_=>rfl
 |[],y::b,h=>by simp at h
 |x::a,[],h=>by simp at h
 |x::a,y::b,h=>by
  simp only[ZsW,List.cons.injEq] at h
  rw[Zb5 h.1,ZeW h.2]
theorem Zdw{x:List Int}{bs:List (List Int)}:tI x∈bs.map tI ↔ x∈bs:=by
 constructor
 ·intro h
  obtain⟨y,hy,e⟩:=ZsV.mp h
  rw[<- Zb5 e];exact hy
 ·exact fun h=>Zuz h
structure NlP(lv:List (List Int))(Q:List Int)(bs:List (List Int))(vs:List PV):Prop where
 hl:∀x∈lv,(∀p∈Q,0<=p/\p<x.length)/\x.length<=1000
 hq:Q.length<=1000
 ln:vs.length=bs.length
 sz:bs.length+lv.length*Q.length<=900000
 fl:PV.flats vs=true
theorem Zd0(Q x:List Int):(Jn Q x).length<=Q.length:=by
 unfold Jn
 rw[ZsI]
 exact ZtV _ _
structure NlI(n:Nat)(st:NB):Prop where
 ln:st.2.2.length=st.2.1.length
 sz:st.2.1.length<=n
 fz:st.1.length<=n
theorem NlI.step{n:Nat}{st:NB}(h:NlI n st)(x:List Int)(y:Int×List Int):NlI (n+1) (stB x st y):=by
 have h1:=h.ln
 have h2:=h.sz
 have h3:=h.fz
 unfold stB
 split
 ·exact⟨h1,by omega,by omega⟩
 ·exact⟨by simp[h1],by simp;omega,by simp;omega⟩
theorem NlI.fold{x:List Int}:∀{L:List (Int×List Int)}{n:Nat}{st:NB},NlI n st->NlI (n+L.length) (L.foldl (stB x) st)
 |[],n,st,h=>h
 |y::L,n,st,h=>by
  have:=NlI.fold (x:=x) (L:=L) (h.step x y)
  rw[Ztq,show n+(L.length+1)=n+1+L.length by omega]
  exact this
theorem NlI.up{n m:Nat}{st:NB}(h:NlI n st)(hm:n<=m):NlI m st:=⟨h.ln,Zth h.sz hm,Zth h.fz hm⟩
theorem NlI.lv{Q:List Int}:∀{lv:List (List Int)}{n:Nat}{st:NB},NlI n st->NlI (n+lv.length*Q.length) (lvB Q lv st)
 |[],n,st,h=>by simpa[lvB] using h
 |x::lv,n,st,h=>by
  have h1:NlI (n+Q.length) (bdB Q x st):=(NlI.fold (x:=x) (L:=Jn Q x) h).up (by have:=Zd0 Q x;omega)
  have:=NlI.lv (Q:=Q) (lv:=lv) h1
  rw[Ztq,Nat.add_mul,show n+(lv.length*Q.length+1*Q.length)=n+Q.length+lv.length*Q.length by omega]
  exact this
noncomputable def Zox:Pm:=⟨List (List Int)×List Int×List (List Int)×List PV,fun a=>[.box none (.dt (a.2.2.1.map tI)) a.2.2.2,.lst (a.1.map ZR),.lst (a.2.1.map PV.int)],fun a=>NlP a.1 a.2.1 a.2.2.1 a.2.2.2,fun a=>.ok (.tup [.lst ((lvB a.2.1 a.1 ([],a.2.2)).1.map ZR),.box none (.dt ((lvB a.2.1 a.1 ([],a.2.2)).2.1.map tI)) (lvB a.2.1 a.1 ([],a.2.2)).2.2])⟩
theorem Zrf(T:Txt K mg){f:Addr}{fd:FuncData}(F:Fun K "next_level" "next_level" Zps f fd):JB P w K mg base CX0 3 f fd ["level", "pits", "came_from"] (spM K 2 2 Zox.fnM):=by
 have Zpb:=JH (P:=P) (w:=w) (base:=base) T.ZpO ZpE (fun F=>ZpB T F)
 refine F.okM (n:=2) (j:=2) Zpd rfl rfl (by decide) (fun cdv A outer s H E hr=>?_)
 have hu:=hr.units
 refine⟨_,_,⟨[.S,.S,.O,.U,.U,.U],[],[],.N⟩,rfl,rfl,(Zd (Zz (i:=3) Zpd.nd rfl (by walk_at "lo") (Vi Zf))
   (Zd (JK PassesOwn.never rfl (ZT (K:=K) (pv 0)) (ZW (i:=4) Zpd.nd rfl (by walk_at "lo")) (Zl (JK PassesOwn.never rfl (ZT (K:=K) (Zq Zpb (hr.mono (by decide)) rfl (Za (pv 4) (Za (pv 1) Zf)))) (ZW (i:=5) Zpd.nd rfl (by walk_at "lo")) (Zl (Jv (Zfn (Q7 (hu1 hu) (ZC (Zp (K:=K)) (pv 5) Zh (fun _ _=>rfl)) (pv 2))) (Zd (ZaJ (hu1 hu) (pv 2) (ZC (Zp (K:=K)) (pv 5) Zh (fun _ _=>rfl)) (JV (Za (pv 4) (Za (ZC (Zp (K:=K)) (pv 5) Zh (fun _ _=>rfl)) Zf))) rfl)
   (Zl (JL (ZcA PySem.F.plainAttrs_list PySem.F.slot_list_append PySem.F.type_list_append JM (pv 3) (Za (ZC (Zp (K:=K)) (pv 5) Zh (fun _ _=>rfl)) Zf))))) ZF)))))
   (Zl (Z0 (pv 3))))),
   (Zm (Γm:=[.S,.S,.O,.O,.U,.U]) (ZG (i:=3) (JS Ja) (by decide))
   (Zm (Γm:=[.S,.S,.O,.O,.U,.U]) (JR (Γl:=[.S,.S,.O,.O,.U,.U]) (Jp (Ve (i:=0) rfl)) rfl (ZeF (i:=4) (by decide))
   (DS.out (Y:=⟨[.S,.S,.O,.O,.P,.U],[.S,.S,.O,.O,.U,.U],[.S,.S,.O,.O,.U,.U],.N⟩) (Y':=⟨[.S,.S,.O,.O,.U,.U],[.S,.S,.O,.O,.U,.U],[.S,.S,.O,.O,.U,.U],.N⟩) (JR (Γl:=[.S,.S,.O,.O,.P,.U]) (Jp (DE.FZ (QU (Zg (Zg Zt)) (Zb (DE.toA (Zj (i:=4) rfl)) (Zb (Zk (i:=1) rfl) Ze))))) rfl (ZeF (i:=5) (by decide))
   (DS.out (Y:=⟨[.S,.S,.O,.O,.P,.P],[.S,.S,.O,.O,.P,.U],[.S,.S,.O,.O,.P,.U],.N⟩) (Y':=⟨[.S,.S,.O,.O,.P,.U],[.S,.S,.O,.O,.P,.U],[.S,.S,.O,.O,.P,.U],.N⟩) (Jw (Zaz (DE.toA (QT (Zw (te:=tC .non) (DE.toA (Zj (i:=5) rfl)) (DE.toA Zi)) (Zs (i:=2) (m:=.O) rfl (by decide)))))
   (Zm (Γm:=[.S,.S,.O,.O,.P,.P]) (Qs (i:=2) rfl (DE.PF (DE.grd (UT (Zb (DE.toA (Zj (i:=4) rfl)) (Zb (Zw (te:=tC .non) (DE.toA (Zj (i:=5) rfl)) (DE.toA Zi)) Ze))))) (Zw (te:=tC .non) (DE.toA (Zj (i:=5) rfl)) (DE.toA Zi)))
   (UR (i:=3) rfl rfl (DE.PF (DE.grd (Zw (te:=tC .non) (DE.toA (Zj (i:=5) rfl)) (DE.toA Zi))))))
   ZH) rfl rfl rfl rfl)) rfl rfl rfl rfl))
   (Zkm (j:=2) (Jt (i:=3) rfl) rfl))), ?_⟩
 refine Pm.refM2 Zox ?_
 rintro⟨lv,Q,bs,vs⟩ (hp:NlP lv Q bs vs) a b' xs e
 cases e
 simp only[Zox]
 have hq:=hp.hq
 have hz:=hp.sz
 walk_at "pd"
 simp only[ins,ZmK]
 walk_at "pd"
 generalize hw:QO _ _ _=W
 obtain⟨ρ',rfl,v,w,rfl⟩:=ZU hw (fun i ρ=>∃v w,ρ=[.lst (lv.map ZR),.lst (Q.map PV.int),.box (some a) (.dt ((lvB Q (lv.take i) ([],bs,vs)).2.1.map tI)) (lvB Q (lv.take i) ([],bs,vs)).2.2,.lst ((lvB Q (lv.take i) ([],bs,vs)).1.map ZR),v,w]) ⟨_,_,rfl⟩ (by
  rintro i x ρ hx ⟨v,w,rfl⟩
  rw[ZsM] at hx
  obtain⟨b,hb,rfl⟩:=ZtD.mp hx
  have hi:i<lv.length:=(ZsJ.mp hb).1
  obtain⟨b1,b2⟩:=hp.hl b (ZsK hb)
  have hs:lvB Q (lv.take (i+1)) ([],bs,vs)=(Jn Q b).foldl (stB b) (lvB Q (lv.take i) ([],bs,vs)):=by
   unfold lvB
   rw[ZuW,hb,Zur];rfl
  rw[hs]
  have I0:NlI (bs.length+(lv.take i).length*Q.length) (lvB Q (lv.take i) ([],bs,vs)):=NlI.lv ⟨hp.ln,ZsN _,Zts _⟩
  have hsz:bs.length+(lv.take i).length*Q.length+Q.length<=900000:=by
   have h1:(lv.take i).length=i:=by rw[ZsY];omega
   rw[h1]
   have h2:(i+1)*Q.length<=lv.length*Q.length:=Nat.mul_le_mul_right _ hi
   rw[Nat.add_mul] at h2
   omega
  generalize lvB Q (lv.take i) ([],bs,vs)=st0 at I0
  walk_at "pd"
  rw[VS]
  walk_at "pd"
  rw[ZpR ⟨b1,b2,hq⟩]
  walk_at "pd"
  have hsl:=Zd0 Q b
  generalize Jn Q b=SL at hsl
  generalize hw2:QO _ _ _=W2
  obtain⟨ρ2,rfl,v2,rfl⟩:=ZU hw2 (fun n ρ=>∃v,ρ=[.lst (lv.map ZR),.lst (Q.map PV.int),.box (some a) (.dt (((SL.take n).foldl (stB b) st0).2.1.map tI)) ((SL.take n).foldl (stB b) st0).2.2,.lst (((SL.take n).foldl (stB b) st0).1.map ZR),ZR b,v]) ⟨_,rfl⟩ (by
   rintro n x ρ hx ⟨v,rfl⟩
   rw[ZsM] at hx
   obtain⟨y,hy,rfl⟩:=ZtD.mp hx
   have hn:n<SL.length:=(ZsJ.mp hy).1
   have hs2:(SL.take (n+1)).foldl (stB b) st0=stB b ((SL.take n).foldl (stB b) st0) y:=by
    rw[ZuW,hy,Zur];rfl
   rw[hs2]
   have I:=NlI.fold (x:=b) (L:=SL.take n) I0
   have htl:(SL.take n).length<=Q.length:=by rw[ZsY];omega
   generalize (SL.take n).foldl (stB b) st0=st at I
   obtain⟨i1,i2,i3⟩:=I
   unfold Vh
   rw[ZiS]
   walk_at "pd"
   rw[Zf5]
   walk_at "pd"
   unfold stB
   by_cases c:y.2∈st.2.1
   ·obtain⟨z,hz⟩:=ZgC (ks:=st.2.1.map tI) (xs:=st.2.2) (by rw[ZsI];omega) (Zdw.mpr c)
    rw[hz,if_pos c]
    walk_at "pd"
    exact JT ⟨_,rfl⟩
   ·rw[Zem (fun z=>c (Zdw.mp z)),if_neg c]
    walk_at "pd"
    rw[ZlP]
    walk_at "pd"
    rw[ZaO (by simp only[PV.flat,PV.flats,JP,Bool.and_self]) (by omega),U3 (fun z=>c (Zdw.mp z)),U2 (fun z=>c (Zdw.mp z))]
    walk_at "pd"
    rw[VS]
    walk_at "pd"
    rw[U5 (by rw[ZsI];omega)]
    walk_at "pd"
    refine JT ⟨.tup [.int y.1,ZR y.2], ?_⟩
    rw[Zty,Zty]
    rfl)
  walk_at "pd"
  refine JT ⟨ZR b,v2, ?_⟩
  rw[ZsI,ZtR])
 walk_at "pd"
 rw[ZsI,ZtR]
 rw[Zhd]
 rfl
theorem Zr6{lv:List (List Int)}{Q:List Int}{bs:List (List Int)}{vs:List PV}(h:NlP lv Q bs vs):Zox.fnM (.box none (.dt (bs.map tI)) vs) [.lst (lv.map ZR),.lst (Q.map PV.int)]=.ok (.tup [.lst ((lvB Q lv ([],bs,vs)).1.map ZR),.box none (.dt ((lvB Q lv ([],bs,vs)).2.1.map tI)) (lvB Q lv ([],bs,vs)).2.2]):=Pm.fn_eq Zox (lv,Q,bs,vs) h (fun(a:List (List Int)×List Int×List (List Int)×List PV) e=>by
 have e':a=(lv,Q,bs,vs):=by
  simp only[Zox,List.cons.injEq,PV.lst.injEq,PV.box.injEq,and_true] at e
  obtain⟨e1,e2,e3⟩:=e
  refine Prod.ext (Qw e2) (Prod.ext (ZM e3) (Prod.ext (ZeW ?_) e1.2.2))
  have:=e1.2.1
  injection this
 rw[e'])
theorem Zh1{b:List Int}:Zar (ZR b) .non=.ok (.box none (.dt [tI b]) [.non]):=by
 rw[Qf]
 unfold Zar
 simp only[Vk]
noncomputable def Zo3:Pm:=⟨List Int×List Int,fun a=>[.lst (a.1.map PV.int),.lst (a.2.map PV.int)],fun a=>a.1.length<=24/\∃s,Zcx a.1.length s (Zc a.1.length a.2) a.1,fun a=>.ok (.box none (.dt ((Zao (Zc a.1.length a.2) a.1).map tI)) (wk (Zc a.1.length a.2) a.1 (wkN (Zc a.1.length a.2) a.1)).2.2)⟩
theorem Zru(T:Txt K mg){f:Addr}{fd:FuncData}(F:Fun K "walk_from" "walk_from" Zp4 f fd):JB P w K mg base CX0 4 f fd ["board", "barred"] (spF K 2 .F W0 Zo3.fn):=by
 have Zo0:=JH (P:=P) (w:=w) (base:=base) T.ZpC Zpx (fun F=>Zpw T F)
 have ZrG:=JH (P:=P) (w:=w) (base:=base) T.Zr0 Zrn (fun F=>Zrf T F)
 refine F.okP ZoX rfl rfl (fun cdv A outer s H E hr=>?_)
 have hu:=hr.units
 refine⟨_,_,⟨[],[],[],.F⟩,rfl,(Zd (Zz (i:=2) ZoX.nd rfl (by walk_at "lo") (Zq Zo0 (hr.mono (by decide)) rfl (Za (pv 0) (Za (pv 1) Zf))))
   (Zd (Zz (i:=3) ZoX.nd rfl (by walk_at "lo") (ZbF (hu1 hu) (ZD (ZQ (K:=K)) rfl T.z_tuple Jj (Za (pv 0) Zf)) VZ))
   (Zd (Zz (i:=4) ZoX.nd rfl (by walk_at "lo") (Vi (Za (ZD (ZQ (K:=K)) rfl T.z_tuple Jj (Za (pv 0) Zf)) Zf)))
   (Zd (ZaI PassesOwn.never (Zj4 (K:=K) (pv 4)) (Zl (Zz (i:=4) ZoX.nd rfl (by walk_at "lo") (Zq ZrG (hr.mono (by decide)) rfl (Za (pv 4) (Za (pv 2) (Za (pv 3) Zf)))))))
   (Zl (Z0 (pv 3))))))),
   (Zm (Γm:=[.S,.S,.O,.U,.U]) (ZG (i:=2) (QU (Zg (Zg Zt)) (Zb (Zk (i:=0) rfl) (Zb (Zk (i:=1) rfl) Ze))) (by decide))
   (Zm (Γm:=[.S,.S,.O,.O,.U]) (ZG (i:=3) (Zce (Ju (Zb (Zk (i:=0) rfl) Ze)) UY) (by decide))
   (Zm (Γm:=[.S,.S,.O,.O,.O]) (ZG (i:=4) (JS (ZA (DE.PF (DE.grd (Ju (Zb (Zk (i:=0) rfl) Ze)))) Ja)) (by decide))
   (Zm (Γm:=[.S,.S,.O,.O,.O]) (Zbj (Γ:=[.S,.S,.O,.O,.O]) (ZlX (Zs (i:=4) (m:=.O) rfl (by decide)))
   (Zib (l:=4) (Zkr (i:=3) rfl (Zg (Zg Zt)) (Zef (Zgn (l:=4) (md:=.O) rfl (by decide)) (Zef (Zgn (l:=2) (md:=.O) rfl (by decide)) (Zio Zkx)))) (by decide)))
   (ZO (Jt (i:=3) rfl)))))), ?_⟩
 refine Pm.ref Zo3 (g:=fun xs=>_) ?_
 rintro⟨b,l⟩ ⟨hl,s,F⟩
 simp only at hl F
 simp only[Zo3]
 walk_at "pd"
 rw[ZpD (by omega)]
 have hpl:=JO b.length l
 unfold Zao
 generalize Zc b.length l=Q at F hpl
 walk_at "pd"
 obtain⟨w1,w2,w3⟩:=F.end
 have hT:Ua [PV.lst (b.map PV.int)]=.ok (ZR b):=rfl
 rw[hT]
 walk_at "pd"
 rw[Zh1]
 walk_at "pd"
 rw[hT]
 walk_at "pd"
 rw[VS]
 walk_at "pd"
 generalize hw:VY _ _ _=W
 obtain⟨ρ',rfl,rfl⟩:=Ug hw (wkN Q b) (fun i ρ=>ρ=[.lst (b.map PV.int),.lst (l.map PV.int),.lst (Q.map PV.int),.box none (.dt ((wk Q b i).2.1.map tI)) (wk Q b i).2.2,.lst ((wk Q b i).1.map ZR)]) rfl (by
  rintro i ρ hi rfl
  have W:=Zbz Q b i
  have hle:=F.le i
  have hsub:(wk Q b i).1.length<=1000:=by
   cases i with
   |zero=>simp[wk]
   |succ i =>
    have:=Zi1 Q b i
    rw[this,Ztw] at hle
    omega
  constructor
  ·walk_at "pd"
   obtain⟨y,ys,e⟩:=Zut (w3 i hi)
   rw[e];rfl
  ·walk_at "pd"
   rw[Ziu (Zr6 (lv:=(wk Q b i).1) (Q:=Q) (bs:=(wk Q b i).2.1) (vs:=(wk Q b i).2.2) ⟨fun x hx=>by
    have B:=(W.re x (W.sub x hx)).bs F.hP F.hb
    exact⟨fun p hp=>by have:=F.hP p hp;have:=B.1;omega,by have:=B.1;omega⟩,by omega,W.ln,by
    have:(wk Q b i).1.length*Q.length<=1000*24:=Nat.mul_le_mul hsub (by omega)
    omega,W.fl⟩)]
   walk_at "pd"
   exact JT rfl) (by
  rintro ρ rfl
  rw[w2]
  walk_at "pd"
  rfl)
 walk_at "pd"
theorem ZrX{b l:List Int}(h:b.length<=24/\∃s,Zcx b.length s (Zc b.length l) b):Zo3.fn [.lst (b.map PV.int),.lst (l.map PV.int)]=.ok (.box none (.dt ((Zao (Zc b.length l) b).map tI)) (wk (Zc b.length l) b (wkN (Zc b.length l) b)).2.2):=Pm.fn_eq Zo3 (b,l) h fun(a:List Int×List Int) e=>by simp only[Zo3] at e ⊢;walk_at "in"
noncomputable def Zog:Pm:=⟨Bool×List Int×List Int,fun a=>[if a.1=true then ZR a.2.1 else .lst (a.2.1.map PV.int),.lst (a.2.2.map PV.int)],fun a=>(∀p∈a.2.2,0<=p/\p<a.2.1.length)/\a.2.2.length<=1000,fun a=>.ok (.int ((a.2.2.map fun p=>a.2.1.getD p.toNat 0).sum))⟩
theorem Zrh(T:Txt K mg){f:Addr}{fd:FuncData}(F:Fun K "free_seeds" "free_seeds" Zpu f fd):JB P w K mg base CX0 1 f fd ["board", "pits"] (spF K 2 .P W0 Zog.fn):=by
 refine F.okP Zqj rfl rfl (fun cdv A outer s H E hr=>?_)
 have hu:=hr.units
 refine⟨_,_,⟨[],[],[],.P⟩,rfl,(Zl (Z0 (Zr (VI (K:=K) rfl) rfl T.z_sum Zcq (Za (JW (ZT (K:=K) (pv 1)) (fun _ _ _ _=>(ZC (Zp (K:=K)) (pv 0) (pv 2) (fun _ _=>rfl))) Zqj.nd rfl) Zf)))),
   (ZK (Zcc (Zb (DE.toA (J5 (DI.c (Jp (Ve (i:=1) rfl))) (DE.PF (DE.grd (Zw (te:=tC .non) (Zk (i:=0) rfl) (Zk (i:=2) rfl)))))) Ze))), ?_⟩
 refine Pm.ref Zog (g:=fun xs=>_) ?_
 rintro⟨t,b,Q⟩ ⟨h0,h1⟩
 simp only at h0 h1
 simp only[Zog]
 cases t with
 |false =>
  rw[if_neg (by simp)]
  walk_at "pd"
  rw[Qp (g:=fun p=>b.getD p.toNat 0) (fun p hp=>by
   have:=h0 p hp
   walk_at "pd")]
  walk_at "pd"
 |true =>
  rw[if_pos rfl]
  walk_at "pd"
  rw[Qp (g:=fun p=>b.getD p.toNat 0) (fun p hp=>by
   have:=h0 p hp
   unfold ZR
   walk_at "pd"
   rw[V9 (by omega) (by omega)]
   walk_at "pd")]
  walk_at "pd"
theorem Zbs{t:Bool}{b Q:List Int}(h:(∀p∈Q,0<=p/\p<b.length)/\Q.length<=1000):Zog.fn (Zog.enc (t,b,Q))=.ok (.int ((Q.map fun p=>b.getD p.toNat 0).sum)):=Pm.fn_eq Zog (t,b,Q) h (fun(a:Bool×List Int×List Int) e=>by
 obtain⟨t',b',Q'⟩:=a
 simp only[Zog,List.cons.injEq,PV.lst.injEq,and_true] at e
 have e2:=ZM e.2
 have e1:b'=b:=by
  have e1:=e.1
  unfold ZR at e1
  cases t<;>cases t'<;>simp at e1<;>exact ZM e1
 show Rr.ok (PV.int ((Q'.map fun p=>b'.getD p.toNat 0).sum))=_
 rw[e1,e2];rfl)
theorem Zbt{b Q:List Int}(h:(∀p∈Q,0<=p/\p<b.length)/\Q.length<=1000):Zog.fn [ZR b,.lst (Q.map PV.int)]=.ok (.int ((Q.map fun p=>b.getD p.toNat 0).sum)):=Zbs (t:=true) h
noncomputable def ZnX:Pm:=⟨List Int×List Int×List Int,fun a=>[ZR a.1,.lst (a.2.1.map PV.int),.lst (a.2.2.map PV.int)],fun a=>(∀p∈a.2.1,0<=p/\p<a.1.length)/\a.2.1.length<=1000/\a.2.2.length=a.2.1.length/\(∀x∈a.1,0<=x/\x<=10^60)/\(∀x∈a.2.2,0<=x/\x<=100),
 fun a=>.ok (ZR [(a.2.1.map fun p=>a.1.getD p.toNat 0).sum,((List.range a.2.1.length).map fun i=>a.1.getD (a.2.1.getD i 0).toNat 0*a.2.2.getD i 0).sum])⟩
theorem Zql(T:Txt K mg){f:Addr}{fd:FuncData}(F:Fun K "seeds_and_steps" "seeds_and_steps" Zou f fd):JB P w K mg base CX0 2 f fd ["board", "pits", "steps"] (spF K 3 .P W0 ZnX.fn):=by
 have ZrI:=JH (P:=P) (w:=w) (base:=base) T.Zr2 Zrp (fun F=>Zrh T F)
 refine F.okP ZoA rfl rfl (fun cdv A outer s H E hr=>?_)
 have hu:=hr.units
 refine⟨_,_,⟨[],[],[],.P⟩,rfl,(Zl (Z0 (JV (Za (Zq ZrI (hr.mono (by decide)) rfl (Za (pv 0) (Za (pv 1) Zf))) (Za (Zr (VI (K:=K) rfl) rfl T.z_sum Zcq (Za (VN (Zhl (K:=K) rfl T.z_enumerate (Za (pv 1) Zf)) (Zho (K:=K) ZoA.nd rfl) (fun _ _ _ _=>Zaq) (fun _ _ _ _=>(Z7 Um (ZC (Zp (K:=K)) (pv 0) (pv 4) (fun _ _=>rfl)) (ZC (Zp (K:=K)) (pv 2) (pv 3) (fun _ _=>rfl)))) hv2 ZoA.nd rfl) Zf)) Zf))))),
   (ZK (DE.grd (UT (Zb (DE.toA (UZ (Zg (Zg Zt)) (Zb (Zk (i:=0) rfl) (Zb (Zk (i:=1) rfl) Ze)))) (Zb (DE.toA (Zcc (Zb (DE.toA (Va (k:=2) (DI.c (Zks (Zil (Ve (i:=1) rfl) Zkv))) ZnO Zca (DE.PF (QS (Zw (te:=tC .non) (Zk (i:=0) rfl) (Zk (i:=4) rfl)) (Zw (te:=tC .non) (Zk (i:=2) rfl) (Zk (i:=3) rfl)))))) Ze))) Ze))))), ?_⟩
 refine Pm.ref ZnX (g:=fun xs=>_) ?_
 rintro⟨b,Q,S⟩ ⟨h0,h1,h2,h3,h4⟩
 simp only at h0 h1 h2 h3 h4
 simp only[ZnX]
 walk_at "pd"
 rw[Zbt ⟨h0,by omega⟩]
 walk_at "pd"
 rw[QI (by rw[ZcO];simp;omega)]
 walk_at "pd"
 rw[Zgd (g:=fun(i:Nat)=>PV.int (b.getD (Q.getD i 0).toNat 0*S.getD i 0)) (fun i hi=>by
  have hq:=h0 (Q.getD i 0) (VE hi)
  have e1:=h3 _ (VE (x:=(Q.getD i 0).toNat) (by omega:(Q.getD i 0).toNat<b.length))
  have e2:=h4 _ (VE (by omega:i<S.length))
  unfold ZR
  walk_at "pd"
  rw[V9 (by omega) (by omega)]
  walk_at "pd"
  rw[ZcE ⟨ZtI (show (b.getD (Q.getD i 0).toNat 0).natAbs<=10^61 by omega) Zjc,ZtI (show (S.getD (i:Int).toNat 0).natAbs<=10^61 by rw[Zta];omega) Zjc⟩,Zta]
  walk_at "pd")]
 walk_at "pd"
 rw[show (List.range Q.length).map (fun(i:Nat)=>PV.int (b.getD (Q.getD i 0).toNat 0*S.getD i 0))=((List.range Q.length).map fun(i:Nat)=>b.getD (Q.getD i 0).toNat 0*S.getD i 0).map PV.int by rw[Ztd];rfl]
 walk_at "pd"
 rfl
theorem Zqw{b Q S:List Int}(h:(∀p∈Q,0<=p/\p<b.length)/\Q.length<=1000/\S.length=Q.length/\(∀x∈b,0<=x/\x<=10^60)/\(∀x∈S,0<=x/\x<=100)):ZnX.fn [ZR b,.lst (Q.map PV.int),.lst (S.map PV.int)]=.ok (ZR [(Q.map fun p=>b.getD p.toNat 0).sum,((List.range Q.length).map fun i=>b.getD (Q.getD i 0).toNat 0*S.getD i 0).sum]):=Pm.fn_eq ZnX (b,Q,S) h (fun(a:List Int×List Int×List Int) e=>by
 have e':a=(b,Q,S):=by
  simp only[ZnX,ZR,List.cons.injEq,PV.tup.injEq,PV.lst.injEq,and_true] at e
  exact Prod.ext (ZM e.1) (Prod.ext (ZM e.2.1) (ZM e.2.2))
 rw[e'])
noncomputable def Zoy:Pm:=⟨List Int×List Int,fun a=>[.lst (a.1.map PV.int),.lst (a.2.map PV.int)],fun a=>a.1.length<=24/\∃s,s<=10^60/\V3 a.1.length s a.2 a.1,fun a=>.ok (.lst ((enF a.1.length a.2 a.1).map ZR))⟩
theorem Zri(T:Txt K mg){f:Addr}{fd:FuncData}(F:Fun K "ends_first" "ends_first" Zpa f fd):JB P w K mg base CX0 6 f fd ["board", "barred"] (spF K 2 .F W0 Zoy.fn):=by
 have Zo0:=JH (P:=P) (w:=w) (base:=base) T.ZpC Zpx (fun F=>Zpw T F)
 have ZqX:=JH (P:=P) (w:=w) (base:=base) T.ZqK ZqC (fun F=>Zq4 T F)
 have Zsh:=JH (P:=P) (w:=w) (base:=base) T.ZrS ZrA (fun F=>Zru T F)
 have Zqx:=JH (P:=P) (w:=w) (base:=base) T.Zqv Zqs (fun F=>Zql T F)
 refine F.okL Zpe rfl rfl (fun cdv A outer s H E hcd hr=>?_)
 obtain⟨c0,P0,hT0,rfl⟩:=ZfO T.l_lam hcd
 have hu:=hr.units
 refine⟨_,_,⟨[],[],[],.F⟩,rfl,(Zd (Zz (i:=2) Zpe.nd rfl (by walk_at "lo") (Zq Zo0 (hr.mono (by decide)) rfl (Za (pv 0) (Za (pv 1) Zf))))
   (Zd (Zz (i:=3) Zpe.nd rfl (by walk_at "lo") (JW (ZT (K:=K) (pv 2)) (fun _ _ _ _=>(Zq ZqX (hr.mono (by decide)) rfl (Za (pv 0) (Za (pv 1) (Za (pv 4) Zf))))) Zpe.nd rfl))
   (Zl (Z0 (Zeu (K:=K) (x := "found") (FN:=["pits", "steps"]) (js:=[2,3]) (k:=3) rfl T.z_sorted Zcr (Za (ZD (ZeK rfl) rfl T.z_list J3 (Za (Zq Zsh (hr.mono (by decide)) rfl (Za (pv 0) (Za (pv 1) Zf))) Zf)) Zf) hT0 rfl rfl (Zdh.of (N:=["board", "barred", "pits", "steps"]) (sc:=Zn Zpa) (by decide +kernel)) (hr.mono (by decide)) (fun f c s H=>Zq Zqx (hr.lam (by decide)) rfl (Za (pv 0) (Za (pv 1) (Za (pv 2) Zf))))))))),
   (Zm (Γm:=[.S,.S,.O,.U]) (ZG (i:=2) (QU (Zg (Zg Zt)) (Zb (Zk (i:=0) rfl) (Zb (Zk (i:=1) rfl) Ze))) (by decide))
   (Zm (Γm:=[.S,.S,.O,.O]) (ZG (i:=3) (J5 (Zie (Zs (i:=2) (m:=.O) rfl (by decide))) (DE.PF (UZ (Zg (Zg (Zg Zt))) (Zb (Zk (i:=0) rfl) (Zb (Zk (i:=1) rfl) (Zb (Zk (i:=4) rfl) Ze)))))) (by decide))
   (ZO (ZeG (m:=ZnX.fn) (ja:=2) (jb:=3) (Zb (DE.toA (Zih (Zb (DE.toA (QU (Zg (Zg Zt)) (Zb (Zk (i:=0) rfl) (Zb (Zk (i:=1) rfl) Ze)))) Ze))) Ze) rfl (by decide) rfl (by decide))))), ?_⟩
 refine Pm.ref Zoy (g:=fun xs=>_) ?_
 rintro⟨b,l⟩ ⟨hl,s,hs,F⟩
 simp only at hl F
 simp only[Zoy]
 walk_at "pd"
 rw[ZpD (by omega)]
 have hpl:=JO b.length l
 walk_at "pd"
 rw[Qp (g:=fun p=>(Zaf b.length l p:Int)) (fun p hp=>by
  obtain⟨q1,q2⟩:=Vl.mp hp
  walk_at "pd"
  rw[ZqQ ⟨hl,q1,q2,F.bar⟩]
  walk_at "pd")]
 walk_at "pd"
 rw[ZrX ⟨hl,_,F.f⟩]
 have W:=Zbz (Zc b.length l) b (wkN (Zc b.length l) b)
 have hle:=F.f.le (wkN (Zc b.length l) b)
 walk_at "pd"
 rw[show List.map tI (Zao (Zc b.length l) b)=(Zao (Zc b.length l) b).map (fun b=>b.map Sum.inl) from rfl,Zfz (bs:=Zao (Zc b.length l) b) W.ln (by unfold Zao;omega)]
 walk_at "pd"
 have hk:∀x∈Zao (Zc b.length l) b,ZnX.fn [ZR x,.lst ((Zc b.length l).map PV.int),.lst (((Zc b.length l).map fun p=>(Zaf b.length l p:Int)).map PV.int)]=.ok (ZR (ZgO b.length l x)):=fun x hx=>by
  have B:=(F.f.mem.mp hx).bs F.f.hP F.f.hb
  rw[Zqw ⟨fun p hp=>by have:=F.f.hP p hp;have:=B.1;omega,by omega,by simp,fun y hy=>⟨B.2.1 y hy,by have:=ZiO B.2.1 hy;have:=B.2.2;omega⟩,fun y hy=>by
   obtain⟨p,hp,rfl⟩:=ZsV.mp hy
   obtain⟨q1,q2⟩:=Vl.mp hp
   have:=(Zbi q1.1 q1.2 q2 F.bar).dn
   omega⟩]
  have hB:((List.range (Zc b.length l).length).map fun i=>x.getD ((Zc b.length l).getD i 0).toNat 0*((Zc b.length l).map fun p=>(Zaf b.length l p:Int)).getD i 0)=((Zc b.length l).map fun p=>x.getD p.toNat 0*(Zaf b.length l p:Int)):=by
   have:=congrArg (List.map fun p=>x.getD p.toNat 0*(Zaf b.length l p:Int)) (Vc (Zc b.length l) 0)
   rw[<- this,Ztd]
   refine ZtA fun i hi=>?_
   have hi:=Ztv.mp hi
   simp only[Function.comp]
   congr 1
   rw[ZsG,ZsM,ZsH hi,ZsG,ZsH hi]
   rfl
  rw[hB]
  rfl
 rw[ZcC ⟨ZaG _ _,by unfold Zao;omega,fun x hx=>⟨_,_,hk x hx⟩⟩]
 have hkz:(Zao (Zc b.length l) b).map (ZgN ZnX.fn (.lst ((Zc b.length l).map PV.int)) (.lst (((Zc b.length l).map fun p=>(Zaf b.length l p:Int)).map PV.int)))=(Zao (Zc b.length l) b).map (ZgO b.length l):=ZtA fun x hx=>by
  unfold ZgN
  rw[hk x hx]
  rfl
 rw[hkz]
 have hfin:((stK ((Zao (Zc b.length l) b).map (ZgO b.length l))).map fun i=>ZR ((Zao (Zc b.length l) b).getD i []))=(enF b.length l b).map ZR:=by unfold enF;rw[Ztd];rfl
 rw[hfin,ZfD JP (by have:=F.len;omega)]
 walk_at "pd"
theorem Zr8{b l:List Int}(h:b.length<=24/\∃s,s<=10^60/\V3 b.length s l b):Zoy.fn [.lst (b.map PV.int),.lst (l.map PV.int)]=.ok (.lst ((enF b.length l b).map ZR)):=Pm.fn_eq Zoy (b,l) h fun(a:List Int×List Int) e=>by simp only[Zoy] at e ⊢;walk_at "in"
noncomputable def Zow:Pm:=⟨List Int×List Int,fun a=>[.lst (a.1.map PV.int),.lst (a.2.map PV.int)],fun a=>a.1.length<=24/\∃s,s<=10^60/\V3 a.1.length s a.2 a.1,fun a=>.ok (.box none (.dt ((enF a.1.length a.2 a.1).map tI)) ((enF a.1.length a.2 a.1).map fun x=>.int (rkB (Zc a.1.length a.2) x)))⟩
theorem Zre(T:Txt K mg){f:Addr}{fd:FuncData}(F:Fun K "ranks_from" "ranks_from" Zpr f fd):JB P w K mg base CX0 7 f fd ["board", "barred"] (spF K 2 .F W0 Zow.fn):=by
 have Zo0:=JH (P:=P) (w:=w) (base:=base) T.ZpC Zpx (fun F=>Zpw T F)
 have ZrJ:=JH (P:=P) (w:=w) (base:=base) T.Zr3 Zrq (fun F=>Zri T F)
 have Zpb:=JH (P:=P) (w:=w) (base:=base) T.ZpO ZpE (fun F=>ZpB T F)
 refine F.okP ZoB rfl rfl (fun cdv A outer s H E hr=>?_)
 have hu:=hr.units
 refine⟨_,_,⟨[],[],[],.F⟩,rfl,(Zd (Zz (i:=2) ZoB.nd rfl (by walk_at "lo") (Zq Zo0 (hr.mono (by decide)) rfl (Za (pv 0) (Za (pv 1) Zf))))
   (Zd (Zz (i:=3) ZoB.nd rfl (by walk_at "lo") Zd9)
   (Zd (JK PassesOwn.never rfl (ZT (K:=K) (Zq ZrJ (hr.mono (by decide)) rfl (Za (pv 0) (Za (pv 1) Zf)))) (ZW (i:=4) ZoB.nd rfl (by walk_at "lo")) (Zl (ZaJ (hu1 hu) (pv 3) (pv 4) (ZjA (K:=K) (i0:=0) rfl rfl T.z_max ZgA (Za (JW (ZT (K:=K) (Zq Zpb (hr.mono (by decide)) rfl (Za (pv 4) (Za (pv 2) Zf)))) (fun _ _ _ _=>(Z7 Jx (Uk (hu1 hu) (pv 3) (ZC (Zp (K:=K)) (pv 5) Zh (fun _ _=>rfl)) (fun _ _=>rfl)) Zh)) ZoB.nd rfl) Zf) Zh) rfl)))
   (Zl (Z0 (pv 3)))))),
   (Zm (Γm:=[.S,.S,.O,.U,.U]) (ZG (i:=2) (QU (Zg (Zg Zt)) (Zb (Zk (i:=0) rfl) (Zb (Zk (i:=1) rfl) Ze))) (by decide))
   (Zm (Γm:=[.S,.S,.O,.O,.U]) (ZG (i:=3) Zed (by decide))
   (Zm (Γm:=[.S,.S,.O,.O,.U]) (JR (Γl:=[.S,.S,.O,.O,.U]) (Jp (DE.FZ (QU (Zg (Zg Zt)) (Zb (Zk (i:=0) rfl) (Zb (Zk (i:=1) rfl) Ze))))) rfl (ZeF (i:=4) (by decide))
   (DS.out (Y:=⟨[.S,.S,.O,.O,.P],[.S,.S,.O,.O,.U],[.S,.S,.O,.O,.U],.F⟩) (Y':=⟨[.S,.S,.O,.O,.U],[.S,.S,.O,.O,.U],[.S,.S,.O,.O,.U],.F⟩) (Qs (i:=3) rfl (DE.PF (Zkt (Zb (DE.toA (J5 (DI.c (Jp (DE.FZ (QU (Zg (Zg Zt)) (Zb (DE.toA (Zj (i:=4) rfl)) (Zb (Zs (i:=2) (m:=.O) rfl (by decide)) Ze)))))) (DE.PF (Jy (Us (Zs (i:=3) (m:=.O) rfl (by decide)) (Zw (te:=tC .non) (Zk (i:=5) rfl) (DE.toA Zi))) (DE.toA Zi))))) Ze))) (DE.toA (Zj (i:=4) rfl))) rfl rfl rfl rfl))
   (ZO (Jt (i:=3) rfl))))), ?_⟩
 refine Pm.ref Zow (g:=fun xs=>_) ?_
 rintro⟨b,l⟩ ⟨hl,s,hs,F⟩
 simp only at hl F
 simp only[Zow]
 walk_at "pd"
 rw[ZpD (by omega)]
 walk_at "pd"
 rw[Zr8 ⟨hl,s,hs,F⟩]
 walk_at "pd"
 have hlen:=F.len
 have nd:=Zge b.length l b
 have hpl:=JO b.length l
 generalize hw:QO _ _ _=W
 obtain⟨ρ',rfl,v,rfl⟩:=ZU hw (fun i ρ=>∃v,ρ=[.lst (b.map PV.int),.lst (l.map PV.int),.lst ((Zc b.length l).map PV.int),.box none (.dt (((enF b.length l b).take i).map tI)) (((enF b.length l b).take i).map fun x=>.int (rkB (Zc b.length l) x)),v]) ⟨_,rfl⟩ (by
  rintro i x ρ hx ⟨v,rfl⟩
  rw[ZsM] at hx
  cases hy:(enF b.length l b)[i]? with
  |none=>rw[hy] at hx;cases hx
  |some y =>
   rw[hy] at hx
   have hx:x=ZR y:=by simpa using hx.symm
   subst hx
   have hi:=(ZsJ.mp hy).1
   have ry:=F.mem.mp (ZsK hy)
   have B:=ry.bs F.f.hP F.f.hb
   rw[VS]
   walk_at "pd"
   rw[ZpR ⟨fun p hp=>by have:=F.f.hP p hp;have:=B.1;omega,by have:=B.1;omega,by omega⟩]
   walk_at "pd"
   have hsl:(Jn (Zc b.length l) y).length<=24:=by
    unfold Jn
    rw[ZsI]
    exact Zth (ZtV _ _) (by omega)
   rw[QI (by rw[ZsI];omega)]
   walk_at "pd"
   rw[ZfJ (q:=Vh) (g:=fun z=>.int (rkB (Zc b.length l) z.2+1)) (fun z hz=>by
    obtain⟨z1,z2,z3⟩:=Jl.mp hz
    obtain⟨j,hj,ej⟩:=F.ahead hy z1 z2
    rw[<- z3] at ej
    have k0:=ZaE (Zc b.length l) z.2
    have k1:=Q4 (Zc b.length l) z.2
    unfold Vh
    walk_at "pd"
    rw[VB (Zel nd hj ej)]
    walk_at "pd")]
   walk_at "pd"
   rw[show ((Jn (Zc b.length l) y).map fun z=>PV.int (rkB (Zc b.length l) z.2+1))=(((Jn (Zc b.length l) y).map fun z=>rkB (Zc b.length l) z.2).map (·+1)).map PV.int by rw[Ztd,Ztd];rfl,Zht]
   walk_at "pd"
   have hv:(if ((Jn (Zc b.length l) y).map fun z=>rkB (Zc b.length l) z.2).map (·+1)=[] then 0 else ZgM (((Jn (Zc b.length l) y).map fun z=>rkB (Zc b.length l) z.2).map (·+1)))=rkB (Zc b.length l) y:=by
    rw[(F.go ry).rk]
    unfold gR
    simp only[List.map_eq_nil_iff]
   rw[hv,ZaO rfl (by rw[ZsI,ZsY];omega),U3 (Qi nd hy),U2 (Qi nd hy)]
   walk_at "pd"
   exact JT ⟨_,by rw[V5 (f:=tI) hy,V5 (f:=fun x=>PV.int (rkB (Zc b.length l) x)) hy]⟩)
 walk_at "pd"
 rw[ZsI,ZtR]
theorem Zr5{b l:List Int}(h:b.length<=24/\∃s,s<=10^60/\V3 b.length s l b):Zow.fn [.lst (b.map PV.int),.lst (l.map PV.int)]=.ok (.box none (.dt ((enF b.length l b).map tI)) ((enF b.length l b).map fun x=>.int (rkB (Zc b.length l) x))):=Pm.fn_eq Zow (b,l) h fun(a:List Int×List Int) e=>by simp only[Zow] at e ⊢;walk_at "in"
noncomputable def Zoj:Pm:=⟨List Int×List Int×List Int,fun a=>[ZR a.1,.lst ((Zc a.2.2.length a.2.1).map PV.int),.box none (.dt ((enF a.2.2.length a.2.1 a.2.2).map tI)) ((enF a.2.2.length a.2.1 a.2.2).map fun x=>.int (rkB (Zc a.2.2.length a.2.1) x))],fun a=>a.2.2.length<=24/\(∃s,V3 a.2.2.length s a.2.1 a.2.2)/\Rch (Zc a.2.2.length a.2.1) a.2.2 a.1/\0<rkB (Zc a.2.2.length a.2.1) a.1,fun a=>.ok (Vh (stR (Zc a.2.2.length a.2.1) a.1))⟩
theorem ZeA(y:Int×List Int):PV.flat (Vh y)=true:=by
 unfold Vh
 simp only[PV.flat,PV.flats,JP,Bool.and_self]
theorem ZbV{y:Int×List Int}:grd (Vh y)=.ok (Vh y):=by
 unfold grd
 rw[ZeA];rfl
theorem Vw{E:List (List Int)}{f:List Int->PV}{y:List Int}(nd:E.Nodup)(hy:y∈E):atK (E.map tI) (E.map f) (tI y)=some (f y):=by
 obtain⟨j,hj⟩:=Ztj hy
 have:=Zel (f:=f) nd (ZsJ.mp hj).1 hj
 rwa [ZtR] at this
theorem Zq5(T:Txt K mg){f:Addr}{fd:FuncData}(F:Fun K "step_to_rank" "step_to_rank" ZoO f fd):JB P w K mg base CX0 3 f fd ["board", "pits", "ranks"] (spF K 3 .P W0 Zoj.fn):=by
 have Zpb:=JH (P:=P) (w:=w) (base:=base) T.ZpO ZpE (fun F=>ZpB T F)
 refine F.okP Zpj rfl rfl (fun cdv A outer s H E hr=>?_)
 have hu:=hr.units
 refine⟨_,_,⟨[],[],[],.P⟩,rfl,(Zd (Vq (i:=3) Zpj.nd rfl (ZT (K:=K) (Zq Zpb (hr.mono (by decide)) rfl (Za (pv 0) (Za (pv 1) Zf)))) (Vs Zpj.nd) (fun _ _ _ _=>(ZdA (fun _ _ h=>h) (Z8 (Vj (K:=K) hu) (Uk (hu1 hu) (pv 2) (ZC (Zp (K:=K)) (pv 4) Zh (fun _ _=>rfl)) (fun _ _=>rfl)) (Z7 ZdH (Uk (hu1 hu) (pv 2) (pv 0) (fun _ _=>rfl)) Zh) (ZE _)))) (fun _ _ _ _=>(pv 4)) hv1 rfl)
   (Zl (Z0 (ZC (Zp (K:=K)) (pv 3) Zh (fun _ _=>rfl))))),
   (Zm (Γm:=[.S,.S,.S,.O]) (JQ (i:=3) (Va (k:=1) (DI.c (Jp (DE.FZ (QU (Zg (Zg Zt)) (Zb (Zk (i:=0) rfl) (Zb (Zk (i:=1) rfl) Ze)))))) Zku (Z3 (DE.toA (Jm (g:=id) (Us (Zk (i:=2) rfl) (Zw (te:=tC .non) (Zk (i:=4) rfl) (DE.toA Zi))) (DE.toA (Zeb (Us (Zk (i:=2) rfl) (Zk (i:=0) rfl)) (DE.toA Zi)))))) (DE.PF (DE.grd (Zk (i:=4) rfl)))) (by decide))
   (ZK (DE.grd (Zw (te:=tC .non) (Zs (i:=3) (m:=.O) rfl (by decide)) (DE.toA Zi))))), ?_⟩
 refine Pm.ref Zoj (g:=fun xs=>_) ?_
 rintro⟨x,l,b⟩ ⟨hl,⟨s,F⟩,rx,hp⟩
 simp only at hl F rx hp
 simp only[Zoj]
 have B:=rx.bs F.f.hP F.f.hb
 have hpl:=JO b.length l
 have nd:=Zge b.length l b
 have hx:=F.mem.mpr rx
 walk_at "pd"
 rw[ZpR ⟨fun p hp=>by have:=F.f.hP p hp;have:=B.1;omega,by have:=B.1;omega,by omega⟩]
 walk_at "pd"
 have hsl:(Jn (Zc b.length l) x).length<=24:=by
  unfold Jn
  rw[ZsI]
  exact Zth (ZtV _ _) (by omega)
 rw[QI (by rw[ZsI];omega)]
 walk_at "pd"
 rw[Zgc (q:=Vh) (p:=fun y=>decide (rkB (Zc b.length l) y.2=rkB (Zc b.length l) x-1)) (g:=Vh) (fun z hz=>by
  obtain⟨z1,z2,z3⟩:=Jl.mp hz
  have rz:z.2∈enF b.length l b:=F.mem.mpr (by rw[z3];exact .step rx z1 z2)
  have k0:=ZaE (Zc b.length l) x
  have k1:=Q4 (Zc b.length l) x
  rw[ZbV]
  unfold Vh
  walk_at "pd"
  rw[VB (Vw (f:=fun x=>PV.int (rkB (Zc b.length l) x)) nd rz)]
  walk_at "pd"
  rw[VB (Vw (f:=fun x=>PV.int (rkB (Zc b.length l) x)) nd hx)]
  walk_at "pd"
  by_cases c:rkB (Zc b.length l) z.2=rkB (Zc b.length l) x-1
  ·rw[decide_eq_true c]
   walk_at "pd"
  ·rw[decide_eq_false c]
   walk_at "pd")]
 walk_at "pd"
 have hne:=((F.go rx).stR hp).1
 unfold stR
 cases hf:(Jn (Zc b.length l) x).filter fun y=>decide (rkB (Zc b.length l) y.2=rkB (Zc b.length l) x-1) with
 |nil=>exact absurd hf hne
 |cons y ys =>
  rw[ZsW,show pIx (PV.lst (Vh y::ys.map Vh)) (.int 0)=.ok (Vh y) by simp[pIx,atI,ixN]]
  walk_at "pd"
  rw[ZbV]
  walk_at "pd"
  rfl
theorem ZqR{x l b:List Int}(h:b.length<=24/\(∃s,V3 b.length s l b)/\Rch (Zc b.length l) b x/\0<rkB (Zc b.length l) x):Zoj.fn [ZR x,.lst ((Zc b.length l).map PV.int),.box none (.dt ((enF b.length l b).map tI)) ((enF b.length l b).map fun x=>.int (rkB (Zc b.length l) x))]=.ok (Vh (stR (Zc b.length l) x)):=Pm.fn_eq Zoj (x,l,b) h (fun(a:List Int×List Int×List Int) e=>by
 obtain⟨x',l',b'⟩:=a
 simp only[Zoj,ZR,List.cons.injEq,PV.tup.injEq,PV.lst.injEq,and_true] at e
 have e1:=ZM e.1
 have e2:=ZM e.2.1
 show Rr.ok (Vh (stR (Zc b'.length l') x'))=_
 rw[e1,e2];rfl)
noncomputable def Zok:Pm:=⟨List Int×List Int,fun a=>[.lst (a.1.map PV.int),.lst (a.2.map PV.int)],fun a=>QZ a.1 a.2,fun a=>.ok (.tup [.lst ((plP (Zc a.1.length a.2) a.1).map Zcb),.lst ((JF (Zc a.1.length a.2) a.1).map (Zaa (Zc a.1.length a.2)))])⟩
theorem Zq6(T:Txt K mg){f:Addr}{fd:FuncData}(F:Fun K "longest_play" "longest_play" ZoP f fd):JB P w K mg base CX0 8 f fd ["board", "barred"] (spF K 2 .F W0 Zok.fn):=by
 have ZrK:=JH (P:=P) (w:=w) (base:=base) T.Zr4 Zrr (fun F=>Zrj T F)
 have Zo0:=JH (P:=P) (w:=w) (base:=base) T.ZpC Zpx (fun F=>Zpw T F)
 have ZrF:=JH (P:=P) (w:=w) (base:=base) T.Zrz Zrm (fun F=>Zre T F)
 have ZqY:=JH (P:=P) (w:=w) (base:=base) T.ZqL ZqD (fun F=>Zq5 T F)
 refine F.okP Zoa rfl rfl (fun cdv A outer s H E hr=>?_)
 have hu:=hr.units
 refine⟨_,_,⟨[],[],[],.F⟩,rfl,(Zd (JL (Zq ZrK (hr.mono (by decide)) rfl (Za (pv 0) (Za (pv 1) Zf))))
   (Zd (Zz (i:=2) Zoa.nd rfl (by walk_at "lo") (Zq Zo0 (hr.mono (by decide)) rfl (Za (pv 0) (Za (pv 1) Zf))))
   (Zd (Zz (i:=3) Zoa.nd rfl (by walk_at "lo") (Zq ZrF (hr.mono (by decide)) rfl (Za (pv 0) (Za (pv 1) Zf))))
   (Zd (Zz (i:=4) Zoa.nd rfl (by walk_at "lo") (Vi Zf))
   (Zd (Zz (i:=5) Zoa.nd rfl (by walk_at "lo") (ZD (ZQ (K:=K)) rfl T.z_tuple Jj (Za (pv 0) Zf)))
   (Zd (ZaI PassesOwn.never (Z8 Ze1 (Uk (hu1 hu) (pv 3) (pv 5) (fun _ _=>rfl)) Zh (ZE _)) (Zd (Zz (i:=6) Zoa.nd rfl (by walk_at "lo") (Zq ZqY (hr.mono (by decide)) rfl (Za (pv 5) (Za (pv 2) (Za (pv 3) Zf)))))
   (Zd (JL (ZcA PySem.F.plainAttrs_list PySem.F.slot_list_append PySem.F.type_list_append JM (pv 4) (Za (JV (Za Zft (Za (ZC (Zp (K:=K)) (pv 6) Zh (fun _ _=>rfl)) Zf))) Zf)))
   (Zl (Zz (i:=5) Zoa.nd rfl (by walk_at "lo") (ZC (Zp (K:=K)) (pv 6) Zh (fun _ _=>rfl)))))))
   (Zl (Z0 (JV (Za (pv 4) (Za (JW (ZT (K:=K) (Zr (ZeJ rfl) rfl T.z_sorted Zcr (Za (pv 3) Zf))) (fun _ _ _ _=>(JV (Za (ZD (J1 (K:=K)) rfl T.z_list J3 (Za (pv 7) Zf)) (Za (Uk (hu1 hu) (pv 3) (pv 7) (fun _ _=>rfl)) Zf)))) Zoa.nd rfl) Zf))))))))))),
   (Zm (Γm:=[.S,.S,.U,.U,.U,.U,.U]) (Zbk (DE.toA (UZ (Zg (Zg Zt)) (Zb (Zk (i:=0) rfl) (Zb (Zk (i:=1) rfl) Ze)))))
   (Zm (Γm:=[.S,.S,.O,.U,.U,.U,.U]) (ZG (i:=2) (QU (Zg (Zg Zt)) (Zb (Zk (i:=0) rfl) (Zb (Zk (i:=1) rfl) Ze))) (by decide))
   (Zm (Γm:=[.S,.S,.O,.O,.U,.U,.U]) (ZG (i:=3) (QU (Zg (Zg Zt)) (Zb (Zk (i:=0) rfl) (Zb (Zk (i:=1) rfl) Ze))) (by decide))
   (Zm (Γm:=[.S,.S,.O,.O,.O,.U,.U]) (ZG (i:=4) (JS Ja) (by decide))
   (Zm (Γm:=[.S,.S,.O,.O,.O,.P,.U]) (ZJ (i:=5) (DE.grd (Ju (Zb (Zk (i:=0) rfl) Ze))) (by decide))
   (Zm (Γm:=[.S,.S,.O,.O,.O,.P,.U]) (Zbj (Γ:=[.S,.S,.O,.O,.O,.P,.U]) (Z3 (DE.toA (ZeI (Us (Zs (i:=3) (m:=.O) rfl (by decide)) (DE.toA (Zj (i:=5) rfl))) (DE.toA Zi))))
   (DS.out (Y:=⟨[.S,.S,.O,.O,.O,.P,.P],[.S,.S,.O,.O,.O,.P,.U],[.S,.S,.O,.O,.O,.P,.U],.F⟩) (Y':=⟨[.S,.S,.O,.O,.O,.P,.U],[.S,.S,.O,.O,.O,.P,.U],[.S,.S,.O,.O,.O,.P,.U],.F⟩) (Zm (Γm:=[.S,.S,.O,.O,.O,.P,.P]) (ZJ (i:=6) (UZ (Zg (Zg (Zg Zt))) (Zb (DE.toA (Zj (i:=5) rfl)) (Zb (Zs (i:=2) (m:=.O) rfl (by decide)) (Zb (Zs (i:=3) (m:=.O) rfl (by decide)) Ze)))) (by decide))
   (Zm (Γm:=[.S,.S,.O,.O,.O,.P,.P]) (UR (i:=4) rfl rfl (DE.PF (DE.grd (UT (Zb (DE.toA Zgo) (Zb (Zw (te:=tC .non) (DE.toA (Zj (i:=6) rfl)) (DE.toA Zi)) Ze))))))
   (ZJ (i:=5) (DE.grd (Zw (te:=tC .non) (DE.toA (Zj (i:=6) rfl)) (DE.toA Zi))) (by decide)))) rfl rfl rfl rfl))
   (ZO (VG (ZA (Jt (i:=4) rfl) (ZA (J5 (DI.c (Jp (DE.FZ (Zig (Zb (Zs (i:=3) (m:=.O) rfl (by decide)) Ze))))) (VG (ZA (Vu (Zb (Zk (i:=7) rfl) Ze)) (ZA (DE.PF (DE.grd (Us (Zs (i:=3) (m:=.O) rfl (by decide)) (Zk (i:=7) rfl)))) Ja)))) Ja)))))))))), ?_⟩
 refine Pm.ref Zok (g:=fun xs=>_) ?_
 rintro⟨b,l⟩ (hX:QZ b l)
 simp only[Zok]
 walk_at "pd"
 rw[Zr9 hX]
 obtain⟨p1,p2,hs,F⟩:=Zhk hX
 walk_at "pd"
 rw[ZpD (by omega)]
 walk_at "pd"
 rw[Zr5 ⟨p1,_,hs,F⟩]
 walk_at "pd"
 have hT:Ua [PV.lst (b.map PV.int)]=.ok (ZR b):=rfl
 rw[hT]
 walk_at "pd"
 rw[VS]
 walk_at "pd"
 have nd:=Zge b.length l b
 have hlen:=F.len
 have hpl:=JO b.length l
 have k0:=ZaE (Zc b.length l) b
 have k1:=Q4 (Zc b.length l) b
 generalize hw:VY _ _ _=W
 obtain⟨ρ',rfl,v,rfl⟩:=Ug hw (rkB (Zc b.length l) b).toNat (fun i ρ=>∃v,ρ=[.lst (b.map PV.int),.lst (l.map PV.int),.lst ((Zc b.length l).map PV.int),.box none (.dt ((enF b.length l b).map tI)) ((enF b.length l b).map fun x=>.int (rkB (Zc b.length l) x)),.lst (((List.range i).map fun j=>(stR (Zc b.length l) (plB (Zc b.length l) b j)).1).map Zcb),ZR (plB (Zc b.length l) b i),v]) ⟨_,rfl⟩ (by
  rintro i ρ hi ⟨v,rfl⟩
  obtain⟨r1,r2⟩:=F.pl i (by omega)
  have hll:(((List.range i).map fun j=>(stR (Zc b.length l) (plB (Zc b.length l) b j)).1).map Zcb).length=i:=by simp
  constructor
  ·walk_at "pd"
   rw[VB (Vw (f:=fun x=>PV.int (rkB (Zc b.length l) x)) nd (F.mem.mpr r1))]
   walk_at "pd"
   rw[decide_eq_true (by omega)]
  ·walk_at "pd"
   rw[ZqR ⟨p1,⟨_,F⟩,r1,by omega⟩]
   walk_at "pd"
   unfold Vh
   walk_at "pd"
   rw[U5 (by rw[hll];omega)]
   walk_at "pd"
   rw[VS]
   walk_at "pd"
   exact JT ⟨_,by rw[ZtZ,Zty,Zty];rfl⟩) (by
  rintro ρ ⟨v,rfl⟩
  obtain⟨r1,r2⟩:=F.pl (rkB (Zc b.length l) b).toNat (by omega)
  walk_at "pd"
  rw[VB (Vw (f:=fun x=>PV.int (rkB (Zc b.length l) x)) nd (F.mem.mpr r1))]
  walk_at "pd"
  rw[decide_eq_false (by omega)])
 walk_at "pd"
 have hle:(JF (Zc b.length l) b).length<=1000:=by
  unfold JF
  rw[(ZP _).length_eq]
  exact F.f.le _
 have hcm:Zc3 (enF b.length l b)=JF (Zc b.length l) b:=Zjr (Qr _ _ _)
 rw[show List.map tI (enF b.length l b)=(enF b.length l b).map (fun t=>t.map Sum.inl) from rfl,Zfx (by simp) ⟨fun t ht=>by
  have B:=(F.mem.mp ht).bs F.f.hP F.f.hb
  intro z
  have:=B.1
  rw[z] at this
  simp at this
  omega,by omega⟩,hcm,ZfD JP (by omega)]
 walk_at "pd"
 rw[ZfJ (q:=ZR) (g:=Zaa (Zc b.length l)) (fun x hx=>by
  have rx:=F.f.com.mp hx
  have B:=rx.bs F.f.hP F.f.hb
  have hL:ZbI [ZR x]=.ok (Zcu x):=by
   unfold ZR
   show ZbI [.tup (x.map PV.int)]=_
   simp only[ZbI]
   rw[QC (by have:=B.1;omega)];rfl
  rw[hL]
  walk_at "pd"
  rw[show (enF b.length l b).map (fun t=>t.map (Sum.inl:Int->Key))=(enF b.length l b).map tI from rfl,VB (Vw (f:=fun x=>PV.int (rkB (Zc b.length l) x)) nd (F.mem.mpr rx))]
  walk_at "pd"
  rfl)]
 walk_at "pd"
 unfold plP
 rfl
theorem ZqS{b l:List Int}(h:QZ b l):Zok.fn [.lst (b.map PV.int),.lst (l.map PV.int)]=.ok (.tup [.lst ((plP (Zc b.length l) b).map Zcb),.lst ((JF (Zc b.length l) b).map (Zaa (Zc b.length l)))]):=Pm.fn_eq Zok (b,l) h fun(a:List Int×List Int) e=>by simp only[Zok] at e ⊢;walk_at "in"
noncomputable def Zo7:Pm:=⟨List Int×Int,fun a=>[.lst (a.1.map PV.int),.int a.2],fun a=>0<=a.2/\a.2<a.1.length/\a.1.length<=1000,fun a=>.ok (ZcB (ZgH a))⟩
theorem Zqz(T:Txt K mg){f:Addr}{fd:FuncData}(F:Fun K "_law_sown" "_law_sown" Zp8 f fd):JB P w K mg base CX0 1 f fd ["board", "pit"] (spF K 2 .F W0 Zo7.fn):=by
 refine F.okP Zo2 rfl rfl (fun cdv A outer s H E hr=>?_)
 have hu:=hr.units
 refine⟨_,_,⟨[],[],[],.F⟩,rfl,(Zd (Zz (i:=2) Zo2.nd rfl (by walk_at "lo") (Zr (Z5 (K:=K)) rfl T.z_len Jf (Za (pv 0) Zf)))
   (Zd (Zz (i:=3) Zo2.nd rfl (by walk_at "lo") (ZC (Zp (K:=K)) (pv 0) (pv 1) (fun _ _=>rfl)))
   (Zd (Zz (i:=4) Zo2.nd rfl (by walk_at "lo") (ZD (J1 (K:=K)) rfl T.z_list J3 (Za (pv 0) Zf)))
   (Zd (UW Zh (Zap (pv 4) (pv 1) Vo))
   (Zd (JK PassesOwn.never rfl (Jc rfl T.z_range (Za (pv 2) Zf)) (ZW (i:=5) Zo2.nd rfl (by walk_at "lo")) (Zd (Zz (i:=6) Zo2.nd rfl (by walk_at "lo") (Z7 Jd (Z7 Jx (Z7 Jx (pv 1) Zh) (pv 5)) (pv 2)))
   (Zl (UW (Z7 Jx (Z7 Jx (ZC (Zp (K:=K)) (pv 4) (pv 6) (fun _ _=>rfl)) (Z7 J4 (pv 3) (pv 2))) (ZD Zg6 rfl T.z_int Zej (Za (Vr ZcF (pv 5) (Z7 Jd (pv 3) (pv 2)) (ZE _)) Zf))) (Zap (pv 4) (pv 6) Vo)))))
   (Zl (Z0 (JV (Za (pv 4) (Za (Z7 Jd (Z7 Jx (pv 1) (pv 3)) (pv 2)) Zf)))))))))),
   (Zm (Γm:=[.S,.S,.P,.U,.U,.U,.U]) (ZJ (i:=2) (Ji (Zb (Zk (i:=0) rfl) Ze)) (by decide))
   (Zm (Γm:=[.S,.S,.P,.P,.U,.U,.U]) (ZJ (i:=3) (DE.grd (Zw (te:=tC .non) (Zk (i:=0) rfl) (Zk (i:=1) rfl))) (by decide))
   (Zm (Γm:=[.S,.S,.P,.P,.O,.U,.U]) (ZG (i:=4) (Vu (Zb (Zk (i:=0) rfl) Ze)) (by decide))
   (Zm (Γm:=[.S,.S,.P,.P,.O,.U,.U]) (Vm (i:=4) rfl Zi (Zk (i:=1) rfl))
   (Zm (Γm:=[.S,.S,.P,.P,.O,.U,.U]) (JR (Γl:=[.S,.S,.P,.P,.O,.U,.U]) (J8 (Zb (DE.toA (Zj (i:=2) rfl)) Ze)) rfl (ZeF (i:=5) (by decide))
   (DS.out (Y:=⟨[.S,.S,.P,.P,.O,.P,.P],[.S,.S,.P,.P,.O,.U,.U],[.S,.S,.P,.P,.O,.U,.U],.F⟩) (Y':=⟨[.S,.S,.P,.P,.O,.U,.U],[.S,.S,.P,.P,.O,.U,.U],[.S,.S,.P,.P,.O,.U,.U],.F⟩) (Zm (Γm:=[.S,.S,.P,.P,.O,.P,.P]) (ZJ (i:=6) (Je (DE.toA (Jy (DE.toA (Jy (Zk (i:=1) rfl) (DE.toA Zi))) (DE.toA (Zj (i:=5) rfl)))) (DE.toA (Zj (i:=2) rfl))) (by decide))
   (Vm (i:=4) rfl (Jy (DE.toA (Jy (Zw (te:=tC .non) (Zs (i:=4) (m:=.O) rfl (by decide)) (DE.toA (Zj (i:=6) rfl))) (DE.toA (Ud (DE.toA (Zj (i:=3) rfl)) (DE.toA (Zj (i:=2) rfl)))))) (DE.toA (Zif (Zb (DE.toA (ZeH (DE.toA (Zj (i:=5) rfl)) (DE.toA (Je (DE.toA (Zj (i:=3) rfl)) (DE.toA (Zj (i:=2) rfl)))))) Ze)))) (DE.toA (Zj (i:=6) rfl)))) rfl rfl rfl rfl))
   (ZO (VG (ZA (Jt (i:=4) rfl) (ZA (DE.PF (Je (DE.toA (Jy (Zk (i:=1) rfl) (DE.toA (Zj (i:=3) rfl)))) (DE.toA (Zj (i:=2) rfl)))) Ja))))))))), ?_⟩
 refine Pm.ref Zo7 (g:=fun xs=>_) ?_
 rintro⟨bs,p⟩ ⟨h0,h1,h2⟩
 simp only at h0 h1 h2
 simp only[Zo7]
 walk_at "pd"
 rw[ZjW h0 h1]
 generalize hw:QO _ _ _=W
 obtain⟨ρ',rfl,v,u,rfl⟩:=ZU hw (fun i ρ=>∃v u,ρ=[.lst (bs.map PV.int),.int p,.int bs.length,.int (bs.getD p.toNat 0),.lst ((tab bs.length (lsF bs p i)).map PV.int),v,u]) ⟨_,_,rfl⟩ (by
  rintro i x ρ hx ⟨v,u,rfl⟩
  obtain⟨hi,rfl⟩:=JU hx
  rw[ZtW]
  have hn:(0:Int)<bs.length:=by omega
  have hlen:(tab bs.length (lsF bs p i)).length=bs.length:=Jk _ _
  have y0:=Zt8 (p+1+i) (show (bs.length:Int)≠0 by omega)
  have y1:=Ztx (p+1+i) hn
  have hst:=ZjX (bs:=bs) (p:=p) h0 h1 (i:=i) (by omega)
  walk_at "pd"
  rw[Qy (by omega)]
  by_cases c:(i:Int)<bs.getD p.toNat 0%bs.length
  ·rw[if_pos c] at hst
   rw[decide_eq_true c,show Zlw [PV.bl true]=.ok (.int 1) from rfl]
   walk_at "pd"
   rw[hst]
   exact JT ⟨_,_,rfl⟩
  ·rw[if_neg c] at hst
   rw[decide_eq_false c,show Zlw [PV.bl false]=.ok (.int 0) from rfl]
   walk_at "pd"
   rw[hst]
   exact JT ⟨_,_,rfl⟩)
 walk_at "pd"
 rw[Jh,show (bs.length:Int).toNat=bs.length by omega,Zl9 h0 h1,Zl8]
 rfl
theorem ZqB{bs:List Int}{p:Int}(h:0<=p/\p<bs.length/\bs.length<=1000):Zo7.fn [.lst (bs.map PV.int),.int p]=.ok (ZcB (ZgH (bs,p))):=Pm.fn_eq Zo7 (bs,p) h fun(a:List Int×Int) e=>by
 simp only[Zo7,List.cons.injEq,PV.lst.injEq,PV.int.injEq,ZdU,and_true] at e ⊢
 rw[show a=(bs,p) from Prod.ext e.1 e.2]
theorem ZaU{α:Type}{q:α->PV}(h:∀x y,q x=q y->x=y):∀{a b:List α},a.map q=b.map q->a=b
 |[],[],_=>rfl
 |[],y::b,e=>by simp at e
 |x::a,[],e=>by simp at e
 |x::a,y::b,e=>by
  simp only[ZsW,List.cons.injEq] at e
  rw[h x y e.1,ZaU h e.2]
theorem ZlA{g:Bool->Bool}:Zac g (.str "sow") (.str "sow")=.ok (.bl (g true)):=ZjJ (by rw[PyData.canLay0];decide +kernel) (by rw[PyData.canLay0];decide +kernel)
structure Zmr(b pl l:List Int):Prop where
 ok:∀t,t<pl.length->((0<=pl.getD t 0/\pl.getD t 0<b.length)/\0<(ZaZ b (pl.take t)).getD (pl.getD t 0).toNat 0)/\pl.getD t 0 ∉ l
theorem ZhC(b:List Int):∀pl,(ZaZ b pl).length=b.length:=by
 intro pl
 induction pl generalizing b with
 |nil=>rfl
 |cons p pl ih=>rw[ZaZ,ih,Q3]
noncomputable def ZoL:Pm:=⟨List Int×List Int×List Int,fun a=>[.lst (a.1.map PV.int),.lst (a.2.1.map Zcb),.lst (a.2.2.map PV.int)],fun a=>Zmr a.1 a.2.1 a.2.2/\a.1.length<=1000,fun a=>.ok (.lst ((ZaZ a.1 a.2.1).map PV.int))⟩
theorem ZrQ(T:Txt K mg){f:Addr}{fd:FuncData}(F:Fun K "_law_led" "_law_led" ZpY f fd):JB P w K mg base CX0 2 f fd ["board", "plan", "bars"] (spF K 3 .F W0 ZoL.fn):=by
 have Zqi:=JH (P:=P) (w:=w) (base:=base) T.ZqA Zq0 (fun F=>Zqz T F)
 refine F.okP Zp3 rfl rfl (fun cdv A outer s H E hr=>?_)
 have hu:=hr.units
 refine⟨_,_,⟨[],[],[],.F⟩,rfl,(Zd (Zz (i:=3) Zp3.nd rfl (by walk_at "lo") (ZD (J1 (K:=K)) rfl T.z_list J3 (Za (pv 0) Zf)))
   (Zd (Jv (J9 (J6 (Zr (ZV (K:=K) (n := "list") rfl) rfl T.z_isinstance Z2 (Za (pv 1) (Za (Jr (v:=.ty "list") rfl T.z_list J3 rfl) Zf))))) (Zl (Z0 VZ)) ZF)
   (Zd (JK PassesOwn.never rfl (ZT (K:=K) (pv 1)) (ZW (i:=4) Zp3.nd rfl (by walk_at "lo")) (Zd (Jv (PW.pt (Vp (J9 (J6 (Zr (ZV (K:=K) (n := "tuple") rfl) rfl T.z_isinstance Z2 (Za (pv 4) (Za (Jr (v:=.ty "tuple") rfl T.z_tuple Zbu rfl) Zf))))) (Vp (Z8 (U6 (K:=K) hu) (Zr (Z5 (K:=K)) rfl T.z_len Jf (Za (pv 4) Zf)) Zh (ZE _)) (Vp (Z8 (U6 (K:=K) hu) (ZC (Zp (K:=K)) (pv 4) Zh (fun _ _=>rfl)) Zft (ZE _)) (V8 (J6 (Zr (ZV (K:=K) (n := "bool") rfl) rfl T.z_isinstance Z2 (Za (ZC (Zp (K:=K)) (pv 4) Zh (fun _ _=>rfl)) (Za (Jr (v:=.ty "bool") rfl T.z_bool Zda rfl) Zf))))))))) (Zl (Z0 VZ)) ZF)
   (Zd (Jv (PW.pt (Vp (J9 (J6 (Zr (ZV (K:=K) (n := "int") rfl) rfl T.z_isinstance Z2 (Za (ZC (Zp (K:=K)) (pv 4) Zh (fun _ _=>rfl)) (Za (Jr (v:=.ty "int") rfl T.z_int Zej rfl) Zf))))) (Vp (J9 (Zhi Zl3 ZcF Zh (ZC (Zp (K:=K)) (pv 4) Zh (fun _ _=>rfl)) (Zr (Z5 (K:=K)) rfl T.z_len Jf (Za (pv 3) Zf)) (by rfl))) (Vp (Z8 (Zl4 (K:=K) hu) (ZC (Zp (K:=K)) (pv 4) Zh (fun _ _=>rfl)) (pv 2) rfl) (V8 (Z8 (Vj (K:=K) hu) (ZC (Zp (K:=K)) (pv 3) (ZC (Zp (K:=K)) (pv 4) Zh (fun _ _=>rfl)) (fun _ _=>rfl)) Zh (ZE _))))))) (Zl (Z0 VZ)) ZF)
   (Zl (Zz (i:=3) Zp3.nd rfl (by walk_at "lo") (ZC (Zp (K:=K)) (Zq Zqi (hr.mono (by decide)) rfl (Za (pv 3) (Za (ZC (Zp (K:=K)) (pv 4) Zh (fun _ _=>rfl)) Zf))) Zh (fun _ _=>rfl)))))))
   (Zl (Z0 (pv 3)))))),
   (Zm (Γm:=[.S,.S,.S,.O,.U]) (ZG (i:=3) (Vu (Zb (Zk (i:=0) rfl) Ze)) (by decide))
   (Zm (Γm:=[.S,.S,.S,.O,.U]) (Jw (JA (Zaz (DE.toA (JZ (Zk (i:=1) rfl)))))
   (ZO (DE.PF UY))
   ZH)
   (Zm (Γm:=[.S,.S,.S,.O,.U]) (JR (Γl:=[.S,.S,.S,.O,.U]) (Jp (Ve (i:=1) rfl)) rfl (ZeF (i:=4) (by decide))
   (DS.out (Y:=⟨[.S,.S,.S,.O,.P],[.S,.S,.S,.O,.U],[.S,.S,.S,.O,.U],.F⟩) (Y':=⟨[.S,.S,.S,.O,.U],[.S,.S,.S,.O,.U],[.S,.S,.S,.O,.U],.F⟩) (Zm (Γm:=[.S,.S,.S,.O,.P]) (Jw (Vt (JA (Zaz (DE.toA (JZ (DE.toA (Zj (i:=4) rfl)))))) (Vt (Z3 (DE.toA (Jm (g:=(!·)) (DE.toA (Ji (Zb (DE.toA (Zj (i:=4) rfl)) Ze))) (DE.toA Zi)))) (Vt (Z3 (DE.toA (Jm (g:=(!·)) (Zw (te:=tC .non) (DE.toA (Zj (i:=4) rfl)) (DE.toA Zi)) (DE.toA Zgo)))) (Zaz (DE.toA (JZ (Zw (te:=tC .non) (DE.toA (Zj (i:=4) rfl)) (DE.toA Zi))))))))
   (ZO (DE.PF UY))
   ZH)
   (Zm (Γm:=[.S,.S,.S,.O,.P]) (Jw (Vt (JA (Zaz (DE.toA (JZ (Zw (te:=tC .non) (DE.toA (Zj (i:=4) rfl)) (DE.toA Zi)))))) (Vt (JA (Z3 (DE.toA (Zii (p:=fun i j=>decide (i<=j)) (q:=fun i j=>decide (i<j)) (DE.toA Zi) (Zw (te:=tC .non) (DE.toA (Zj (i:=4) rfl)) (DE.toA Zi)) (DE.toA (Ji (Zb (Zs (i:=3) (m:=.O) rfl (by decide)) Ze))))))) (Vt (Z3 (DE.toA (Zec (g:=id) (Zw (te:=tC .non) (DE.toA (Zj (i:=4) rfl)) (DE.toA Zi)) (Zk (i:=2) rfl)))) (Z3 (DE.toA (Jm (g:=id) (Zw (te:=tC .non) (Zs (i:=3) (m:=.O) rfl (by decide)) (Zw (te:=tC .non) (DE.toA (Zj (i:=4) rfl)) (DE.toA Zi))) (DE.toA Zi)))))))
   (ZO (DE.PF UY))
   ZH)
   (ZG (i:=3) (ZiX (te:=tC .non) (QU (Zg (Zg Zt)) (Zb (Zs (i:=3) (m:=.O) rfl (by decide)) (Zb (Zw (te:=tC .non) (DE.toA (Zj (i:=4) rfl)) (DE.toA Zi)) Ze))) (DE.toA Zi)) (by decide)))) rfl rfl rfl rfl))
   (ZO (Jt (i:=3) rfl))))), ?_⟩
 refine Pm.ref ZoL (g:=fun xs=>_) ?_
 rintro⟨b,pl,l⟩ ⟨h,hb⟩
 simp only at h hb
 simp only[ZoL]
 walk_at "pd"
 generalize hw:QO _ _ _=W
 obtain⟨ρ',rfl,v,rfl⟩:=ZU hw (fun i ρ=>∃v,ρ=[.lst (b.map PV.int),.lst (pl.map Zcb),.lst (l.map PV.int),.lst ((ZaZ b (pl.take i)).map PV.int),v]) ⟨_,rfl⟩ (by
  rintro i x ρ hx ⟨v,rfl⟩
  rw[ZsM] at hx
  obtain⟨p,hp,rfl⟩:=ZtD.mp hx
  have hi:i<pl.length:=(ZsJ.mp hp).1
  have hpe:pl.getD i 0=p:=by rw[ZsG,hp];rfl
  obtain⟨⟨⟨o1,o2⟩,o3⟩,o4⟩:=h.ok i hi
  rw[hpe] at o1 o2 o3 o4
  have hs:ZaZ b (pl.take (i+1))=Vz (ZaZ b (pl.take i)) p:=by
   rw[ZuW,hp]
   exact ZbO b p _
  rw[hs]
  have hl:=ZhC b (pl.take i)
  generalize ZaZ b (pl.take i)=c at hl o3
  unfold Zcb
  walk_at "pd"
  rw[ZlA]
  walk_at "pd"
  rw[decide_eq_true o1,decide_eq_true (show p<(c.length:Int) by omega),VA,decide_eq_false o4,decide_eq_false (show ¬c.getD p.toNat 0=0 by omega)]
  walk_at "pd"
  rw[ZqB ⟨o1,by omega,by omega⟩]
  simp only[ZcB,ZgH]
  walk_at "pd"
  exact JT ⟨_,rfl⟩)
 walk_at "pd"
 rw[ZsI,ZtR]
theorem Zsv{b pl l:List Int}(h:Zmr b pl l/\b.length<=1000):ZoL.fn [.lst (b.map PV.int),.lst (pl.map Zcb),.lst (l.map PV.int)]=.ok (.lst ((ZaZ b pl).map PV.int)):=Pm.fn_eq ZoL (b,pl,l) h (fun(a:List Int×List Int×List Int) e=>by
 have e':a=(b,pl,l):=by
  simp only[ZoL,List.cons.injEq,PV.lst.injEq,and_true] at e
  exact Prod.ext (ZM e.1) (Prod.ext (ZaU (fun x y z=>by simp only[Zcb,PV.tup.injEq,List.cons.injEq,PV.int.injEq,and_true,true_and] at z;exact z) e.2.1) (ZM e.2.2))
 rw[e'])
noncomputable def Zod:Pm:=⟨List (List Int×Int),fun L=>[.lst (L.map rkQ)],fun L=>L.length<=1000/\(L.map (·.1)).Pairwise (fun a b=>HT.Z1 a b=true),fun L=>.ok (.box none (.dt ((L.map (·.1)).map tI)) ((L.map (·.2)).map PV.int))⟩
theorem Zq9(T:Txt K mg){f:Addr}{fd:FuncData}(F:Fun K "_law_numbers" "_law_numbers" ZoT f fd):JB P w K mg base CX0 1 f fd ["ranks"] (spF K 1 .F W0 Zod.fn):=by
 refine F.okP ZoD rfl rfl (fun cdv A outer s H E hr=>?_)
 have hu:=hr.units
 refine⟨_,_,⟨[],[],[],.F⟩,rfl,(Zd (Zz (i:=1) ZoD.nd rfl (by walk_at "lo") Zd9)
   (Zd (Jv (J9 (J6 (Zr (ZV (K:=K) (n := "list") rfl) rfl T.z_isinstance Z2 (Za (pv 0) (Za (Jr (v:=.ty "list") rfl T.z_list J3 rfl) Zf))))) (Zl (Z0 VZ)) ZF)
   (Zd (JK PassesOwn.never rfl (Jc rfl T.z_range (Za (Zr (Z5 (K:=K)) rfl T.z_len Jf (Za (pv 0) Zf)) Zf)) (ZW (i:=2) ZoD.nd rfl (by walk_at "lo")) (Zd (Zz (i:=3) ZoD.nd rfl (by walk_at "lo") (ZC (Zp (K:=K)) (pv 0) (pv 2) (fun _ _=>rfl)))
   (Zd (Jv (PW.pt (Vp (J9 (J6 (Zr (ZV (K:=K) (n := "tuple") rfl) rfl T.z_isinstance Z2 (Za (pv 3) (Za (Jr (v:=.ty "tuple") rfl T.z_tuple Zbu rfl) Zf))))) (Vp (Z8 (U6 (K:=K) hu) (Zr (Z5 (K:=K)) rfl T.z_len Jf (Za (pv 3) Zf)) Zh (ZE _)) (V8 (J9 (J6 (Zr (ZV (K:=K) (n := "list") rfl) rfl T.z_isinstance Z2 (Za (ZC (Zp (K:=K)) (pv 3) Zh (fun _ _=>rfl)) (Za (Jr (v:=.ty "list") rfl T.z_list J3 rfl) Zf))))))))) (Zl (Z0 VZ)) ZF)
   (Zd (Jv (PW.pt (Vp (J9 (J6 (Zr (ZV (K:=K) (n := "int") rfl) rfl T.z_isinstance Z2 (Za (ZC (Zp (K:=K)) (pv 3) Zh (fun _ _=>rfl)) (Za (Jr (v:=.ty "int") rfl T.z_int Zej rfl) Zf))))) (V8 (J6 (Zr (ZV (K:=K) (n := "bool") rfl) rfl T.z_isinstance Z2 (Za (ZC (Zp (K:=K)) (pv 3) Zh (fun _ _=>rfl)) (Za (Jr (v:=.ty "bool") rfl T.z_bool Zda rfl) Zf))))))) (Zl (Z0 VZ)) ZF)
   (Zd (Jv (PW.pt (ZiG (Z8 Ze1 (pv 2) Zh (ZE _)) (Zfl (J9 (Z8 (ZjO (K:=K) hu) (ZC (Zp (K:=K)) (ZC (Zp (K:=K)) (pv 0) (Z7 ZdH (pv 2) Zh) (fun _ _=>rfl)) Zh (fun _ _=>rfl)) (ZC (Zp (K:=K)) (pv 3) Zh (fun _ _=>rfl)) (ZE _)))))) (Zl (Z0 VZ)) ZF)
   (Zl (ZaJ (hu1 hu) (pv 1) (ZD (ZQ (K:=K)) rfl T.z_tuple Jj (Za (ZC (Zp (K:=K)) (pv 3) Zh (fun _ _=>rfl)) Zf)) (ZC (Zp (K:=K)) (pv 3) Zh (fun _ _=>rfl)) rfl)))))))
   (Zl (Z0 (pv 1)))))),
   (Zm (Γm:=[.S,.O,.U,.U]) (ZG (i:=1) Zed (by decide))
   (Zm (Γm:=[.S,.O,.U,.U]) (Jw (JA (Zaz (DE.toA (JZ (Zk (i:=0) rfl)))))
   (ZO (DE.PF UY))
   ZH)
   (Zm (Γm:=[.S,.O,.U,.U]) (JR (Γl:=[.S,.O,.U,.U]) (J8 (Zb (DE.toA (Ji (Zb (Zk (i:=0) rfl) Ze))) Ze)) rfl (ZeF (i:=2) (by decide))
   (DS.out (Y:=⟨[.S,.O,.P,.S],[.S,.O,.U,.U],[.S,.O,.U,.U],.F⟩) (Y':=⟨[.S,.O,.U,.U],[.S,.O,.U,.U],[.S,.O,.U,.U],.F⟩) (Zm (Γm:=[.S,.O,.P,.S]) (Zkl (i:=3) (Zmg (te:=tC .non) (Ve (i:=0) rfl) (DE.toA (Zj (i:=2) rfl))) (by decide))
   (Zm (Γm:=[.S,.O,.P,.S]) (Jw (Vt (JA (Zaz (DE.toA (JZ (Zk (i:=3) rfl))))) (Vt (Z3 (DE.toA (Jm (g:=(!·)) (DE.toA (Ji (Zb (Zk (i:=3) rfl) Ze))) (DE.toA Zi)))) (JA (Zaz (DE.toA (JZ (Zw (te:=tC .non) (Zk (i:=3) rfl) (DE.toA Zi))))))))
   (ZO (DE.PF UY))
   ZH)
   (Zm (Γm:=[.S,.O,.P,.S]) (Jw (Vt (JA (Zaz (DE.toA (JZ (Zw (te:=tC .non) (Zk (i:=3) rfl) (DE.toA Zi)))))) (Zaz (DE.toA (JZ (Zw (te:=tC .non) (Zk (i:=3) rfl) (DE.toA Zi))))))
   (ZO (DE.PF UY))
   ZH)
   (Zm (Γm:=[.S,.O,.P,.S]) (Jw (ZiU (Z3 (DE.toA (ZeI (DE.toA (Zj (i:=2) rfl)) (DE.toA Zi)))) (JA (Z3 (DE.toA (Zmf (Zw (te:=tC .non) (Zw (te:=tC .non) (Zk (i:=0) rfl) (DE.toA (Zeb (DE.toA (Zj (i:=2) rfl)) (DE.toA Zi)))) (DE.toA Zi)) (Zw (te:=tC .non) (Zk (i:=3) rfl) (DE.toA Zi)))))))
   (ZO (DE.PF UY))
   ZH)
   (Qs (i:=1) rfl (DE.PF (DE.grd (Zw (te:=tC .non) (Zk (i:=3) rfl) (DE.toA Zi)))) (Ju (Zb (Zw (te:=tC .non) (Zk (i:=3) rfl) (DE.toA Zi)) Ze))))))) rfl rfl rfl rfl))
   (ZO (Jt (i:=1) rfl))))), ?_⟩
 refine Pm.ref Zod (g:=fun xs=>_) ?_
 rintro(L:List (List Int×Int)) ⟨hl,hu⟩
 simp only[Zod]
 have nd:(L.map (·.1)).Nodup:=hu.imp fun h z=>by rw[z,HL.JX] at h;cases h
 walk_at "pd"
 rw[ZaM,ZsI]
 walk_at "pd"
 generalize hw:QO _ _ _=W
 obtain⟨ρ',rfl,v,w,rfl⟩:=ZU hw (fun i ρ=>∃v w,ρ=[.lst (L.map rkQ),.box none (.dt (((L.map (·.1)).take i).map tI)) (((L.map (·.2)).take i).map PV.int),v,w]) ⟨_,_,rfl⟩ (by
  rintro i x ρ hx ⟨v,w,rfl⟩
  obtain⟨hi,rfl⟩:=JU hx
  rw[ZtW]
  have hi':i<L.length:=by omega
  walk_at "pd"
  rw[Zhx (q:=rkQ) (d:=(([],0):List Int×Int)) (by omega) (by omega),Zta]
  have hq:∀y:List Int×Int,rkQ y=.tup [.lst (y.1.map PV.int),.int y.2]:=fun _=>rfl
  have hyi:L[i]?=some (L.getD i ([],0)):=by rw[ZsG,ZsH hi'];rfl
  rw[hq]
  walk_at "pd"
  have hlt:(if decide ((0:Int)<(i:Int))=true then ((((pIx (PV.lst (L.map rkQ)) (PV.int ((i:Int)-1))).bind fun x=>pIx x (PV.int 0)).bind fun x=>ZjG x (PV.lst ((L.getD i ([],0)).1.map PV.int))).bind asB).bind fun b=>Rr.ok !b else Rr.ok false)=Rr.ok false:=by
   by_cases c:0<i
   ·rw[decide_eq_true (by omega),if_pos rfl,Zhx (q:=rkQ) (d:=(([],0):List Int×Int)) (by omega) (by omega),hq]
    have hup:=ZtE.mp hu (i-1) i (by rw[ZsI];omega) (by rw[ZsI];omega) (by omega)
    rw[ZuF,ZuF] at hup
    have e1:L.getD ((i:Int)-1).toNat ([],0)=L[i-1]:=by rw[show ((i:Int)-1).toNat=i-1 by omega,ZsG,ZsH (by omega)];rfl
    have e2:L.getD i ([],0)=L[i]:=by rw[ZsG,ZsH hi'];rfl
    rw[e1,e2]
    walk_at "pd"
    rw[show ZjG (.lst (L[i-1].1.map PV.int)) (.lst (L[i].1.map PV.int))=.ok (.bl (HT.Z1 L[i-1].1 L[i].1)) by unfold ZjG;simp only[Zau],hup]
    rfl
   ·rw[decide_eq_false (by omega),if_neg (by simp)]
  rw[hlt]
  walk_at "pd"
  rw[show Ua [PV.lst ((L.getD i ([],0)).1.map PV.int)]=.ok (ZR (L.getD i ([],0)).1) from rfl]
  walk_at "pd"
  have hyf:(L.map (·.1))[i]?=some (L.getD i ([],0)).1:=by rw[ZsM,hyi];rfl
  have hys:(L.map (·.2))[i]?=some (L.getD i ([],0)).2:=by rw[ZsM,hyi];rfl
  rw[ZaO rfl (by rw[ZsI,ZsY,ZsI];omega),U3 (Qi nd hyf),U2 (Qi nd hyf)]
  walk_at "pd"
  exact JT ⟨_,_,by rw[V5 (f:=tI) hyf,V5 (f:=PV.int) hys]⟩)
 walk_at "pd"
 rw[Jh,Zta,Ztn (by simp),Ztn (by simp)]
theorem ZqV{L:List (List Int×Int)}(h:L.length<=1000/\(L.map (·.1)).Pairwise (fun a b=>HT.Z1 a b=true)):Zod.fn [.lst (L.map rkQ)]=.ok (.box none (.dt ((L.map (·.1)).map tI)) ((L.map (·.2)).map PV.int)):=Pm.fn_eq Zod L h (fun(a:List (List Int×Int)) e=>by
 have e':a=L:=by
  simp only[Zod,List.cons.injEq,PV.lst.injEq,and_true] at e
  exact ZaU (fun x y z=>by
   simp only[rkQ,Zcu,PV.tup.injEq,List.cons.injEq,PV.int.injEq,PV.lst.injEq,and_true] at z
   exact Prod.ext (ZM z.1) z.2) e
 rw[e'])
theorem Zfc(Q x:List Int):(Jn Q x).length<=Q.length:=by
 unfold Jn
 rw[ZsI]
 exact ZtV _ _
noncomputable def Zmn(y:Int×List Int):PV:=.tup [.int y.1,Zcu y.2]
noncomputable def Zoh:Pm:=⟨List Int×List Int,fun a=>[.lst (a.1.map PV.int),.lst (a.2.map PV.int)],fun a=>a.1.length<=1000,fun a=>.ok (.lst ((Jn (Zc a.1.length a.2) a.1).map Zmn))⟩
theorem Zqa(T:Txt K mg){f:Addr}{fd:FuncData}(F:Fun K "_law_behind" "_law_behind" Zpg f fd):JB P w K mg base CX0 2 f fd ["board", "bars"] (spF K 2 .F W0 Zoh.fn):=by
 have Zqi:=JH (P:=P) (w:=w) (base:=base) T.ZqA Zq0 (fun F=>Zqz T F)
 refine F.okP Zpy rfl rfl (fun cdv A outer s H E hr=>?_)
 have hu:=hr.units
 refine⟨_,_,⟨[],[],[],.F⟩,rfl,(Zd (Zz (i:=2) Zpy.nd rfl (by walk_at "lo") (Vi Zf))
   (Zd (JK PassesOwn.never rfl (Jc rfl T.z_range (Za (Zr (Z5 (K:=K)) rfl T.z_len Jf (Za (pv 0) Zf)) Zf)) (ZW (i:=3) Zpy.nd rfl (by walk_at "lo")) (Zl (Jv (PW.pt (ZiG (Z8 Ze1 (ZC (Zp (K:=K)) (pv 0) (pv 3) (fun _ _=>rfl)) Zh (ZE _)) (Zfl (Z8 (QB (K:=K) hu) (pv 3) (pv 1) rfl)))) (Zl (JL (ZcA PySem.F.plainAttrs_list PySem.F.slot_list_append PySem.F.type_list_append JM (pv 2) (Za (JV (Za (pv 3) (Za (ZC (Zp (K:=K)) (Zq Zqi (hr.mono (by decide)) rfl (Za (pv 0) (Za (pv 3) Zf))) Zh (fun _ _=>rfl)) Zf))) Zf)))) ZF)))
   (Zl (Z0 (pv 2))))),
   (Zm (Γm:=[.S,.S,.O,.U]) (ZG (i:=2) (JS Ja) (by decide))
   (Zm (Γm:=[.S,.S,.O,.U]) (JR (Γl:=[.S,.S,.O,.U]) (J8 (Zb (DE.toA (Ji (Zb (Zk (i:=0) rfl) Ze))) Ze)) rfl (ZeF (i:=3) (by decide))
   (DS.out (Y:=⟨[.S,.S,.O,.P],[.S,.S,.O,.U],[.S,.S,.O,.U],.F⟩) (Y':=⟨[.S,.S,.O,.U],[.S,.S,.O,.U],[.S,.S,.O,.U],.F⟩) (Jw (ZiU (Z3 (DE.toA (ZeI (Zw (te:=tC .non) (Zk (i:=0) rfl) (DE.toA (Zj (i:=3) rfl))) (DE.toA Zi)))) (Z3 (DE.toA (Zec (g:=(!·)) (DE.toA (Zj (i:=3) rfl)) (Zk (i:=1) rfl)))))
   (UR (i:=2) rfl rfl (VG (ZA (DE.PF (Zj (i:=3) rfl)) (ZA (ZiX (te:=tC .non) (QU (Zg (Zg Zt)) (Zb (Zk (i:=0) rfl) (Zb (DE.toA (Zj (i:=3) rfl)) Ze))) (DE.toA Zi)) Ja))))
   ZH) rfl rfl rfl rfl))
   (ZO (Jt (i:=2) rfl)))), ?_⟩
 refine Pm.ref Zoh (g:=fun xs=>_) ?_
 rintro⟨b,l⟩ (hb:b.length<=1000)
 simp only[Zoh]
 walk_at "pd"
 generalize hw:QO _ _ _=W
 obtain⟨ρ',rfl,v,rfl⟩:=ZU hw (fun i ρ=>∃v,ρ=[.lst (b.map PV.int),.lst (l.map PV.int),.lst ((Jn (Zc i l) b).map Zmn),v]) ⟨_,rfl⟩ (by
  rintro i x ρ hx ⟨v,rfl⟩
  obtain⟨hi,rfl⟩:=JU hx
  rw[ZtW]
  have hlen:(Jn (Zc i l) b).length<=i:=Zth (Zfc _ _) (JO _ _)
  have hY:(i:Int) ∉ l->0<b.getD i 0->Jn (Zc (i+1) l) b=Jn (Zc i l) b++[((i:Int),Vz b i)]:=fun e e2=>by
   unfold Jn Zc
   rw[ZtZ,Zuk,Zty,Zuk,Zty]
   congr 1
   rw[show List.filter (fun(i:Nat)=>decide ((i:Int) ∉ l)) [i]=[i] from Zue.mpr fun z hz=>by rw[Ztf.mp hz];exact decide_eq_true e]
   rw[show List.filter (fun(p:Int)=>decide (0<b.getD p.toNat 0)) ([i].map fun(i:Nat)=>(i:Int))=[(i:Int)] from Zue.mpr fun z hz=>by rw[Ztf.mp hz];exact decide_eq_true e2]
   rfl
  have hN:¬((i:Int) ∉ l/\0<b.getD i 0)->Jn (Zc (i+1) l) b=Jn (Zc i l) b:=fun c=>by
   unfold Jn Zc
   rw[ZtZ,Zuk,Zty,Zuk,Zty]
   rw[show List.filter (fun(p:Int)=>decide (0<b.getD p.toNat 0)) ((List.filter (fun(i:Nat)=>decide ((i:Int) ∉ l)) [i]).map fun(i:Nat)=>(i:Int))=[] from List.filter_eq_nil_iff.mpr fun z hz=>by
    obtain⟨k,hk,rfl⟩:=ZsV.mp hz
    obtain⟨k1,k2⟩:=Zt7.mp hk
    rw[Ztf.mp k1] at k2 ⊢
    intro z
    exact c ⟨of_decide_eq_true k2,of_decide_eq_true z⟩]
   rw[Zua,ZtS]
  walk_at "pd"
  rw[VA,Zta]
  by_cases e2:0<b.getD i 0
  ·rw[decide_eq_true e2]
   walk_at "pd"
   by_cases e:(i:Int)∈l
   ·rw[decide_eq_true e,hN (fun z=>z.1 e)]
    walk_at "pd"
    exact JT ⟨_,rfl⟩
   ·rw[decide_eq_false e,hY e e2]
    walk_at "pd"
    rw[ZqB ⟨by omega,by omega,by omega⟩]
    simp only[ZcB,ZgH]
    walk_at "pd"
    rw[U5 (by rw[ZsI];omega)]
    walk_at "pd"
    exact JT ⟨_,by rw[Zty];rfl⟩
  ·rw[decide_eq_false e2,hN (fun z=>e2 z.2)]
   walk_at "pd"
   exact JT ⟨_,rfl⟩)
 walk_at "pd"
 rw[Jh,Zta]
theorem Zqr{b l:List Int}(h:b.length<=1000):Zoh.fn [.lst (b.map PV.int),.lst (l.map PV.int)]=.ok (.lst ((Jn (Zc b.length l) b).map Zmn)):=Pm.fn_eq Zoh (b,l) h fun(a:List Int×List Int) e=>by simp only[Zoh] at e ⊢;walk_at "in"
theorem Zf4{b:List Int}:Zar (ZR b) (.bl true)=.ok (.box none (.dt [tI b]) [.bl true]):=by
 rw[Qf]
 unfold Zar
 simp only[Vk]
noncomputable def Zoc:Pm:=⟨List Int×List Int,fun a=>[.lst ((JF (Zc a.1.length a.2) a.1).map (Zaa (Zc a.1.length a.2))),.box none (.dt ((JF (Zc a.1.length a.2) a.1).map tI)) ((JF (Zc a.1.length a.2) a.1).map fun x=>.int (rkB (Zc a.1.length a.2) x)),.lst (a.1.map PV.int),.lst (a.2.map PV.int)],fun a=>a.1.length<=24/\∃s,V3 a.1.length s a.2 a.1,fun _=>.ok (.bl true)⟩
theorem Zqf(T:Txt K mg){f:Addr}{fd:FuncData}(F:Fun K "_law_ranks_right" "_law_ranks_right" Zos f fd):JB P w K mg base CX0 3 f fd ["ranks", "met", "board", "bars"] (spF K 4 .P W0 Zoc.fn):=by
 have ZpF:=JH (P:=P) (w:=w) (base:=base) T.Zqo Zqb (fun F=>Zqa T F)
 refine F.okP ZnZ rfl rfl (fun cdv A outer s H E hr=>?_)
 have hu:=hr.units
 refine⟨_,_,⟨[],[],[],.P⟩,rfl,(Zd (Zz (i:=4) ZnZ.nd rfl (by walk_at "lo") (ZbF (hu1 hu) (ZD (ZQ (K:=K)) rfl T.z_tuple Jj (Za (pv 2) Zf)) Zab))
   (Zd (JK PassesOwn.never rfl (ZT (K:=K) (pv 0)) (ZW (i:=5) ZnZ.nd rfl (by walk_at "lo")) (Zd (Zz (i:=6) ZnZ.nd rfl (by walk_at "lo") Zh)
   (Zd (JK PassesOwn.never rfl (ZT (K:=K) (Zq ZpF (hr.mono (by decide)) rfl (Za (ZC (Zp (K:=K)) (pv 5) Zh (fun _ _=>rfl)) (Za (pv 3) Zf)))) (ZW (i:=7) ZnZ.nd rfl (by walk_at "lo")) (Zd (Jv (Zfn (Q7 (hu1 hu) (ZD (ZQ (K:=K)) rfl T.z_tuple Jj (Za (ZC (Zp (K:=K)) (pv 7) Zh (fun _ _=>rfl)) Zf)) (pv 1))) (Zl (Z0 Zab)) ZF)
   (Zd (ZaJ (hu1 hu) (pv 4) (ZD (ZQ (K:=K)) rfl T.z_tuple Jj (Za (ZC (Zp (K:=K)) (pv 7) Zh (fun _ _=>rfl)) Zf)) Zab rfl)
   (Zl (Zz (i:=6) ZnZ.nd rfl (by walk_at "lo") (Zr (Zch rfl) rfl T.z_max ZgA (Za (pv 6) (Za (Z7 Jx Zh (Uk (hu1 hu) (pv 1) (ZD (ZQ (K:=K)) rfl T.z_tuple Jj (Za (ZC (Zp (K:=K)) (pv 7) Zh (fun _ _=>rfl)) Zf)) (fun _ _=>rfl))) Zf))))))))
   (Zl (Jv (Z8 (U6 (K:=K) hu) (ZC (Zp (K:=K)) (pv 5) Zh (fun _ _=>rfl)) (pv 6) (ZE _)) (Zl (Z0 Zab)) ZF)))))
   (Zl (Z0 (Vr (Vj (K:=K) hu) (Zr Zck rfl T.z_len Jf (Za (pv 4) Zf)) (Zr Zck rfl T.z_len Jf (Za (pv 1) Zf)) (ZE _)))))),
   (Zm (Γm:=[.S,.S,.S,.S,.O,.U,.U,.U]) (ZG (i:=4) (Zce (Ju (Zb (Zk (i:=2) rfl) Ze)) Zah) (by decide))
   (Zm (Γm:=[.S,.S,.S,.S,.O,.U,.U,.U]) (JR (Γl:=[.S,.S,.S,.S,.O,.U,.U,.U]) (Jp (Ve (i:=0) rfl)) rfl (ZnB (i:=5) (by decide))
   (DS.out (Y:=⟨[.S,.S,.S,.S,.O,.S,.P,.U],[.S,.S,.S,.S,.O,.U,.U,.U],[.S,.S,.S,.S,.O,.U,.U,.U],.P⟩) (Y':=⟨[.S,.S,.S,.S,.O,.U,.U,.U],[.S,.S,.S,.S,.O,.U,.U,.U],[.S,.S,.S,.S,.O,.U,.U,.U],.P⟩) (Zm (Γm:=[.S,.S,.S,.S,.O,.S,.P,.U]) (ZJ (i:=6) Zi (by decide))
   (Zm (Γm:=[.S,.S,.S,.S,.O,.S,.P,.U]) (JR (Γl:=[.S,.S,.S,.S,.O,.S,.P,.U]) (Jp (DE.FZ (QU (Zg (Zg Zt)) (Zb (Zw (te:=tC .non) (Zk (i:=5) rfl) (DE.toA Zi)) (Zb (Zk (i:=3) rfl) Ze))))) rfl (ZnB (i:=7) (by decide))
   (DS.out (Y:=⟨[.S,.S,.S,.S,.O,.S,.P,.S],[.S,.S,.S,.S,.O,.S,.P,.U],[.S,.S,.S,.S,.O,.S,.P,.U],.P⟩) (Y':=⟨[.S,.S,.S,.S,.O,.S,.P,.U],[.S,.S,.S,.S,.O,.S,.P,.U],[.S,.S,.S,.S,.O,.S,.P,.U],.P⟩) (Zm (Γm:=[.S,.S,.S,.S,.O,.S,.P,.S]) (Jw (Zaz (DE.toA (QT (Ju (Zb (Zw (te:=tC .non) (Zk (i:=7) rfl) (DE.toA Zi)) Ze)) (Zk (i:=1) rfl))))
   (ZK Zah)
   ZH)
   (Zm (Γm:=[.S,.S,.S,.S,.O,.S,.P,.S]) (Qs (i:=4) rfl (DE.PF Zah) (Ju (Zb (Zw (te:=tC .non) (Zk (i:=7) rfl) (DE.toA Zi)) Ze)))
   (ZJ (i:=6) (Zgr (Zb (DE.toA (Zj (i:=6) rfl)) (Zb (DE.toA (Jy (DE.toA Zi) (Us (Zk (i:=1) rfl) (Ju (Zb (Zw (te:=tC .non) (Zk (i:=7) rfl) (DE.toA Zi)) Ze))))) Ze))) (by decide)))) rfl rfl rfl rfl))
   (Jw (Z3 (DE.toA (Jm (g:=(!·)) (Zw (te:=tC .non) (Zk (i:=5) rfl) (DE.toA Zi)) (DE.toA (Zj (i:=6) rfl)))))
   (ZK Zah)
   ZH))) rfl rfl rfl rfl))
   (ZK (Jm (g:=id) (DE.toA (Zgt (Zb (Zs (i:=4) (m:=.O) rfl (by decide)) Ze))) (DE.toA (Zgt (Zb (Zk (i:=1) rfl) Ze))))))), ?_⟩
 refine Pm.ref Zoc (g:=fun xs=>_) ?_
 rintro⟨b,l⟩ ⟨hl,s,F⟩
 simp only at hl F
 simp only[Zoc]
 have hB:∀{x:List Int},Bs b.length s x->Zoh.fn [.lst (x.map PV.int),.lst (l.map PV.int)]=.ok (.lst ((Jn (Zc b.length l) x).map Zmn)):=fun {x} hx=>by
  have:=hx.1
  rw[Zqr (by omega),this]
 walk_at "pd"
 rw[show Ua [PV.lst (b.map PV.int)]=.ok (ZR b) from rfl]
 walk_at "pd"
 rw[Zf4]
 walk_at "pd"
 generalize hw:QO _ _ _=W
 obtain⟨ρ',rfl,v1,v2,v3,rfl⟩:=ZU hw (fun i ρ=>∃v1 v2 v3,ρ=[.lst ((JF (Zc b.length l) b).map (Zaa (Zc b.length l))),.box none (.dt ((JF (Zc b.length l) b).map tI)) ((JF (Zc b.length l) b).map fun x=>.int (rkB (Zc b.length l) x)),.lst (b.map PV.int),.lst (l.map PV.int),.box none (.dt ((ZfL (Zc b.length l) b (JF (Zc b.length l) b) i).map tI)) (List.replicate (ZfL (Zc b.length l) b (JF (Zc b.length l) b) i).length (.bl true)),v1,v2,v3]) ⟨_,_,_,rfl⟩ (by
  rintro i x ρ hx ⟨v1,v2,v3,rfl⟩
  rw[ZsM] at hx
  obtain⟨x,hx2,rfl⟩:=ZtD.mp hx
  have rx:=F.f.com.mp (ZsK hx2)
  have Bx:=rx.bs F.f.hP F.f.hb
  have hi:i<(JF (Zc b.length l) b).length:=(ZsJ.mp hx2).1
  rw[ZbP hx2]
  have IO:=ZcN (P:=Zc b.length l) (b:=b) (M:=JF (Zc b.length l) b) (fun x hx=>F.f.com.mp hx) i (by omega)
  generalize ZfL (Zc b.length l) b (JF (Zc b.length l) b) i=L0 at IO
  have hr:Zaa (Zc b.length l) x=.tup [.lst (x.map PV.int),.int (rkB (Zc b.length l) x)]:=rfl
  rw[hr]
  walk_at "pd"
  rw[hB Bx]
  walk_at "pd"
  generalize hw2:QO _ _ _=W2
  obtain⟨ρ2,rfl,v4,rfl⟩:=ZU hw2 (fun j ρ=>∃v,ρ=[.lst ((JF (Zc b.length l) b).map (Zaa (Zc b.length l))),.box none (.dt ((JF (Zc b.length l) b).map tI)) ((JF (Zc b.length l) b).map fun x=>.int (rkB (Zc b.length l) x)),.lst (b.map PV.int),.lst (l.map PV.int),.box none (.dt ((((Jn (Zc b.length l) x).take j).foldl qsB L0).map tI)) (List.replicate (((Jn (Zc b.length l) x).take j).foldl qsB L0).length (.bl true)),.tup [.lst (x.map PV.int),.int (rkB (Zc b.length l) x)],.int (ZeD 0 (((Jn (Zc b.length l) x).take j).map fun y=>rkB (Zc b.length l) y.2)),v]) ⟨_,rfl⟩ (by
   rintro j z ρ hz ⟨v,rfl⟩
   rw[ZsM] at hz
   obtain⟨y,hy,rfl⟩:=ZtD.mp hz
   obtain⟨y1,y2,y3⟩:=Jl.mp (ZsK hy)
   have ry:y.2∈JF (Zc b.length l) b:=F.f.com.mpr (by rw[y3];exact .step rx y1 y2)
   have k0:=ZaE (Zc b.length l) y.2
   have k1:=Q4 (Zc b.length l) y.2
   have hT:Ua [Zcu y.2]=.ok (ZR y.2):=rfl
   have hj:j<(Jn (Zc b.length l) x).length:=(ZsJ.mp hy).1
   have hfold:((Jn (Zc b.length l) x).take (j+1)).foldl qsB L0=qsB (((Jn (Zc b.length l) x).take j).foldl qsB L0) y:=by
    rw[Zuq,hy,Zur];rfl
   obtain⟨a1,a2,_,_⟩:=ZaH (R:=Rch (Zc b.length l) b) IO.nd IO.re (S:=(Jn (Zc b.length l) x).take j) fun y hy=>by
    obtain⟨y1,y2,y3⟩:=Jl.mp (Ztl hy)
    rw[y3];exact .step rx y1 y2
   have hlen:(((Jn (Zc b.length l) x).take j).foldl qsB L0).length<=1000:=by
    have:=Zjb (n:=b.length) (s:=s) F.f.n1 a1 fun x hx=>(a2 x hx).bs F.f.hP F.f.hb
    have:=F.f.few
    omega
   rw[hfold,V5 (f:=fun y=>rkB (Zc b.length l) y.2) hy,ZbZ]
   generalize ZeD 0 (((Jn (Zc b.length l) x).take j).map fun y=>rkB (Zc b.length l) y.2)=dd
   generalize ((Jn (Zc b.length l) x).take j).foldl qsB L0=L1 at a1 a2 hlen
   unfold Zmn
   walk_at "pd"
   rw[hT]
   walk_at "pd"
   rw[Zf5,Vw (f:=fun x=>PV.int (rkB (Zc b.length l) x)) (QW _ _) ry]
   simp only[ZuS,Bool.not_true]
   walk_at "pd"
   rw[hT]
   walk_at "pd"
   rw[ZaO rfl (by rw[ZuB];omega)]
   walk_at "pd"
   rw[hT]
   walk_at "pd"
   rw[VB (Vw (f:=fun x=>PV.int (rkB (Zc b.length l) x)) (QW _ _) ry)]
   walk_at "pd"
   have hput:Q5 (L1.map tI) (tI y.2)=(qsB L1 y).map tI/\Uj (L1.map tI) (List.replicate L1.length (PV.bl true)) (tI y.2) (.bl true)=List.replicate (qsB L1 y).length (.bl true):=by
    unfold qsB
    by_cases c:y.2∈L1
    ·have c':tI y.2∈L1.map tI:=Zuz c
     rw[if_pos c]
     refine⟨if_pos c', ?_⟩
     unfold Uj
     rw[if_pos c']
     have:=ZbA (L1.map tI) (tI y.2) (PV.bl true)
     rwa [ZsI] at this
    ·have c':tI y.2 ∉ L1.map tI:=fun z=>by
      obtain⟨w,hw,e⟩:=ZsV.mp z
      rw[Zb5 e] at hw
      exact c hw
     rw[if_neg c,U3 c',U2 c',Zty,Ztw,show L1.length+[y.2].length=L1.length+1 from rfl,List.replicate_succ']
     exact⟨rfl,rfl⟩
   rw[hput.1,hput.2]
   exact JT ⟨_,rfl⟩)
  walk_at "pd"
  rw[ZsI,ZtR,Zkk (fun v hv=>by obtain⟨y,_,rfl⟩:=ZsV.mp hv;exact ZaE _ _),<- (F.go rx).rk]
  walk_at "pd"
  exact JT ⟨_,_,_,rfl⟩)
 walk_at "pd"
 have hle:(JF (Zc b.length l) b).length<=1000:=by
  unfold JF
  rw[(ZP _).length_eq]
  exact F.f.le _
 rw[ZsI,ZdE (by simp) (by rw[ZsI,F.lat];omega),ZdE (by simp) (by rw[ZsI];omega),ZsI,ZsI,F.lat]
 walk_at "pd"
theorem Zqq{b l:List Int}(h:b.length<=24/\∃s,V3 b.length s l b):Zoc.fn [.lst ((JF (Zc b.length l) b).map (Zaa (Zc b.length l))),.box none (.dt ((JF (Zc b.length l) b).map tI)) ((JF (Zc b.length l) b).map fun x=>.int (rkB (Zc b.length l) x)),.lst (b.map PV.int),.lst (l.map PV.int)]=.ok (.bl true):=Pm.fn_eq Zoc (b,l) h (fun _ _=>rfl)
theorem Bar.barB{n:Nat}{l:List Int}(h:Bar n l):Zm9 n l:=by
 refine⟨h.al, ?_,fun z=>h.ne (List.length_eq_zero_iff.mp z),h.nn⟩
 unfold riB
 refine Zt4.mpr fun i hi=>decide_eq_true ?_
 have hi:=Ztv.mp hi
 have:=ZtE.mp h.up i (i+1) (by omega) (by omega) (by omega)
 rw[ZsG,ZsG,ZsH (show i<l.length by omega),ZsH (show i+1<l.length by omega)]
 exact this
noncomputable def ZnN:Bool:=(List.range 11).all fun(p:Nat)=>(List.range 41).all fun(s:Nat)=>decide ((p=2\/(p=3/\s<11)\/(p=4/\s<7)\/(p=5/\s<5)\/(6<=p/\s<4))->cbN p s<=1000)
theorem ZlR:ZnN=true:=by decide +kernel
theorem Znd(c:Int):2<=fwP c/\fwP c<=10/\0<=fwS c/\fwS c<=40/\cbN (fwP c) (fwS c)<=1000:=by
 have key:∀(p s:Nat),p<11->s<41->(p=2\/(p=3/\s<11)\/(p=4/\s<7)\/(p=5/\s<5)\/(6<=p/\s<4))->cbN p s<=1000:=fun p s hp hs hc=>by
  have h:=Zt4.mp (Zt4.mp ZlR p (Ztv.mpr hp)) s (Ztv.mpr hs)
  exact of_decide_eq_true h hc
 have fin:∀(p:Nat) (m x:Int),0<m->m<=41->2<=p->p<=10->(∀s:Nat,(s:Int)<m->(p=2\/(p=3/\s<11)\/(p=4/\s<7)\/(p=5/\s<5)\/(6<=p/\s<4)))->2<=(p:Int)/\(p:Int)<=10/\0<=x%m/\x%m<=40/\cbN p (x%m)<=1000:=fun p m x m0 m1 p2 p10 hc=>by
  have q1:=Zt8 x (show m≠0 by omega)
  have q2:=Ztx x m0
  generalize x%m=r at q1 q2
  have:=key p r.toNat (by omega) (by omega) (hc _ (by omega))
  rw[Ztu q1] at this
  exact⟨by omega,by omega,q1,by omega,this⟩
 unfold fwP fwS
 generalize stir c 5=x
 split
 ·have h5:0<=c/4%5/\c/4%5<5:=by omega
  generalize c/4%5=d at h5
  have:=fin (6+d).toNat 4 x (by decide) (by decide) (by omega) (by omega) (fun s h=>.inr (.inr (.inr (.inr ⟨by omega,by omega⟩))))
  rw[Ztu (by omega)] at this
  exact this
 ·have h4:(c/4%4=0\/c/4%4=1\/c/4%4=2\/c/4%4=3):=by omega
  rcases h4 with z|z|z|z<;>rw[z]
  ·exact fin 2 41 x (by decide) (by decide) (by decide) (by decide) (fun _ _=>.inl rfl)
  ·exact fin 3 11 x (by decide) (by decide) (by decide) (by decide) (fun s h=>.inr (.inl ⟨rfl,by omega⟩))
  ·exact fin 4 7 x (by decide) (by decide) (by decide) (by decide) (fun s h=>.inr (.inr (.inl ⟨rfl,by omega⟩)))
  ·exact fin 5 5 x (by decide) (by decide) (by decide) (by decide) (fun s h=>.inr (.inr (.inr (.inl ⟨rfl,by omega⟩))))
theorem ZdF{g:Bool->Bool}{n:Nat}{x:PV}(h:Dat n x)(hn:n<=64:=by decide):Zac g x x=.ok (.bl (g true)):=by
 unfold Zac
 rw[h.ok hn,Bool.and_self,if_pos rfl,PySem.SeqAt.eqv_refl _ h.can]
theorem Zfr{n:Nat}{s:Int}{b l:List Int}(h2:2<=n)(h24:n<=24)(hs:s<=10^60)(hB:Bs n s b)(hl:Bar n l)(hc:cbN n s<=1000)(hll:l.length<=1000):QZ b l:=by
 obtain⟨e1,e2,e3⟩:=hB
 exact⟨⟨by omega,by omega,e2,by omega⟩,by rw[e1];exact hl.barB,by rw[e1,e3];exact hc,hll⟩
theorem ZmO{f:PV->Rr PV}{L:List (List Int×Int)}{g:List Int×Int->List Int×Int}{k:Nat}(h:k<L.length)(hf:f (Zcu (L.getD k ([],0)).1)=.ok (Zcu (g (L.getD k ([],0))).1))(hg:(g (L.getD k ([],0))).2=(L.getD k ([],0)).2):pGo f (.lst (L.map rkQ)) [(k:Int),0]=.ok (.lst ((L.set k (g (L.getD k ([],0)))).map rkQ)):=by
 have e1:ixN (L.map rkQ).length (k:Int)=some k:=by
  unfold ixN
  rw[if_pos (by omega),if_pos (by rw[ZsI];omega)];simp
 have e2:(L.map rkQ).getD k .non=.tup [Zcu (L.getD k ([],0)).1,.int (L.getD k ([],0)).2]:=by
  rw[ZsG,ZsM,ZsH h,ZsG,ZsH h];rfl
 have e3:pGo f (.tup [Zcu (L.getD k ([],0)).1,.int (L.getD k ([],0)).2]) [0]=.ok (rkQ (g (L.getD k ([],0)))):=by
  show ((f (Zcu (L.getD k ([],0)).1)).bind fun z=>Rr.ok (PV.tup [z,.int (L.getD k ([],0)).2]))=_
  rw[hf,<- hg]
  rfl
 simp only[pGo,e1,e2] at e3 ⊢
 rw[e3]
 simp only[Rr.bind_ok,List.map_set]
noncomputable def ap0(y:List Int×Int):List Int×Int:=(y.1++[0],y.2)
noncomputable def apA(L:List (List Int×Int))(k:Nat):List (List Int×Int):=(L.take k).map ap0++L.drop k
theorem Zdf{L:List (List Int×Int)}{k:Nat}(h:k<L.length):(apA L k).getD k ([],0)=L.getD k ([],0):=by
 unfold apA
 rw[ZsG,ZsU (by rw[ZsI,ZsY];omega),ZsI,ZsY,ZuM (by omega),ZuR,Ztp,Zve,ZsG]
theorem Zde(L:List (List Int×Int))(k:Nat):(apA L k).length=L.length:=by
 unfold apA
 rw[Ztw,ZsI,ZsY,ZtK];omega
theorem Zix{L:List (List Int×Int)}{k:Nat}(h:k<L.length):(apA L k).set k (ap0 (L.getD k ([],0)))=apA L (k+1):=by
 have hk:L[k]?=some (L.getD k ([],0)):=by rw[ZsG,ZsH h];rfl
 unfold apA
 rw[List.set_append,if_neg (by rw[ZsI,ZsY];omega),ZsI,ZsY,ZuM (by omega),ZuR,Zuq,hk,Zty]
 rw[Zte h]
 rw[ZsH h] at hk
 simp only[ZuT,Option.toList_some,ZsW,Zua,ZsS,Zuf,ZtP]
theorem Zmh(y:List Int×Int):Dat 2 (rkQ y):=Zbm fun z hz=>by
 simp only[ZsT,ZuG,or_false] at hz
 rcases hz with rfl|rfl
 ·exact Zbo _
 ·exact(UU _).up (by decide)
theorem Zgv(L:List (List Int×Int)):Dat 3 (.lst (L.map rkQ)):=Zbn fun x hx=>by
 obtain⟨y,_,rfl⟩:=ZsV.mp hx
 refine Zbm fun z hz=>?_
 simp only[ZsT,ZuG,or_false] at hz
 rcases hz with rfl|rfl
 ·exact Zbo _
 ·exact(UU _).up (by decide)
theorem Zin(ps:List Int):Dat 2 (.lst (ps.map Zcb)):=Zbn fun x hx=>by
 obtain⟨p,_,rfl⟩:=ZsV.mp hx
 refine Zbm fun y hy=>?_
 simp only[ZsT,ZuG,or_false] at hy
 rcases hy with rfl|rfl
 ·exact Zkw (by rw[PyData.canLay0];decide +kernel)
 ·exact UU _
theorem Zim(ps:List Int)(L:List (List Int×Int)):Dat 4 (.tup [.lst (ps.map Zcb),.lst (L.map rkQ)]):=Zbm fun y hy=>by
 simp only[ZsT,ZuG,or_false] at hy
 rcases hy with rfl|rfl
 ·exact(Zin ps).up (by decide)
 ·exact Zgv L
noncomputable def Zrt:Pm:=⟨List Int,fun ns=>[.lst (ns.map PV.int)],fun ns=>ns.length<=63,fun _=>.ok (.bl true)⟩
theorem ZsD(T:Txt K mg){f:Addr}{fd:FuncData}(F:Fun K "law" "law" Zs9 f fd):JB P w K mg base CX0 9 f fd ["script"] (spF K 1 .P W0 Zrt.fn):=by
 have Zs2:=JH (P:=P) (w:=w) (base:=base) T.Zsr Zsg (fun F=>ZrR T F)
 have Zs0:=JH (P:=P) (w:=w) (base:=base) T.Zsp Zse (fun F=>ZrP T F)
 have Zsk:=JH (P:=P) (w:=w) (base:=base) T.ZrV ZrD (fun F=>Zrx T F)
 have Zsl:=JH (P:=P) (w:=w) (base:=base) T.ZrW ZrE (fun F=>Zry T F)
 have Zqc:=JH (P:=P) (w:=w) (base:=base) T.ZqM ZqE (fun F=>Zq6 T F)
 have Zs1:=JH (P:=P) (w:=w) (base:=base) T.Zsq Zsf (fun F=>ZrQ T F)
 have Zrb:=JH (P:=P) (w:=w) (base:=base) T.ZqP ZqH (fun F=>Zq9 T F)
 have ZpF:=JH (P:=P) (w:=w) (base:=base) T.Zqo Zqb (fun F=>Zqa T F)
 have Zqu:=JH (P:=P) (w:=w) (base:=base) T.Zqn Zqh (fun F=>Zqf T F)
 have Zoq:=JH (P:=P) (w:=w) (base:=base) T.Zp0 Zpo (fun F=>Zpm T F)
 refine F.okP Zpc rfl rfl (fun cdv A outer s H E hr=>?_)
 have hu:=hr.units
 refine⟨_,_,⟨[],[],[],.P⟩,rfl,(Zd (UW (Zq Zs2 (hr.mono (by decide)) rfl (Za (pv 0) Zf)) (Zfs rfl (VM (ZW (i:=1) Zpc.nd rfl (by walk_at "lo")) (VM (ZW (i:=2) Zpc.nd rfl (by walk_at "lo")) Zc9))))
   (Zd (Zz (i:=3) Zpc.nd rfl (by walk_at "lo") (Zq Zs0 (hr.mono (by decide)) rfl (Za (pv 0) (Za Zh (Za (Z7 Um Zh (pv 2)) (Za (pv 1) (Za (Vr (Vj (K:=K) hu) (Z7 Jd (Z7 J4 (Zq Zoq (hr.mono (by decide)) rfl (Za (pv 0) (Za Zh Zf))) Zh) Zh) Zh (ZE _)) Zf)))))))
   (Zd (Zz (i:=4) Zpc.nd rfl (by walk_at "lo") (Zq Zsk (hr.mono (by decide)) rfl (Za (Zd8 (Zd1 (K:=K)) (pv 3) Zfq (Zfp (pv 2))) (Za (pv 1) Zf))))
   (Zd (Zz (i:=5) Zpc.nd rfl (by walk_at "lo") (Zq Zsl (hr.mono (by decide)) rfl (Za (pv 0) (Za (pv 1) Zf))))
   (Zd (Zz (i:=6) Zpc.nd rfl (by walk_at "lo") (Vi (Za (ZD (J1 (K:=K)) rfl T.z_list J3 (Za (pv 4) Zf)) (Za (ZD (J1 (K:=K)) rfl T.z_list J3 (Za (pv 5) Zf)) Zf))))
   (Zd (Zz (i:=7) Zpc.nd rfl (by walk_at "lo") (Zq Zqc (hr.mono (by decide)) rfl (Za (ZC (Zp (K:=K)) (pv 6) Zh (fun _ _=>rfl)) (Za (ZC (Zp (K:=K)) (pv 6) Zh (fun _ _=>rfl)) Zf))))
   (Zd (Jv (PW.pt (Vp (Z8 (U6 (K:=K) hu) (pv 6) (Vi (Za (pv 4) (Za (pv 5) Zf))) (ZE _)) (Vp (J9 (J6 (Zr (ZV (K:=K) (n := "tuple") rfl) rfl T.z_isinstance Z2 (Za (pv 7) (Za (Jr (v:=.ty "tuple") rfl T.z_tuple Zbu rfl) Zf))))) (V8 (Z8 (U6 (K:=K) hu) (Zr (Z5 (K:=K)) rfl T.z_len Jf (Za (pv 7) Zf)) Zh (ZE _)))))) (Zl (Z0 Zab)) ZF)
   (Zd (UW (pv 7) (Zfs rfl (VM (ZW (i:=8) Zpc.nd rfl (by walk_at "lo")) (VM (ZW (i:=9) Zpc.nd rfl (by walk_at "lo")) Zc9))))
   (Zd (Zz (i:=10) Zpc.nd rfl (by walk_at "lo") (Zq Zs1 (hr.mono (by decide)) rfl (Za (pv 4) (Za (pv 8) (Za (pv 5) Zf)))))
   (Zd (Zz (i:=11) Zpc.nd rfl (by walk_at "lo") (Zq Zrb (hr.mono (by decide)) rfl (Za (pv 9) Zf)))
   (Zd (Jv (PW.pt (Vp (Z8 ZiH (pv 10) VZ (ZE _)) (Vp (Z8 ZiH (pv 11) VZ (ZE _)) (Vp (Zfn (Q7 (hu1 hu) (ZD (ZQ (K:=K)) rfl T.z_tuple Jj (Za (pv 4) Zf)) (pv 11))) (V8 (Z8 (U6 (K:=K) hu) (Zq ZpF (hr.mono (by decide)) rfl (Za (pv 10) (Za (pv 5) Zf))) (Vi Zf) (ZE _))))))) (Zl (Z0 Zab)) ZF)
   (Zd (Jv (PW.pt (Vp (Z8 (U6 (K:=K) hu) (Zr (Z5 (K:=K)) rfl T.z_len Jf (Za (pv 8) Zf)) (Uk (hu1 hu) (pv 11) (ZD (ZQ (K:=K)) rfl T.z_tuple Jj (Za (pv 4) Zf)) (fun _ _=>rfl)) (ZE _)) (V8 (J9 (J6 (Zq Zqu (hr.mono (by decide)) rfl (Za (pv 9) (Za (pv 11) (Za (pv 4) (Za (pv 5) Zf)))))))))) (Zl (Z0 Zab)) ZF)
   (Zd (Zz (i:=12) Zpc.nd rfl (by walk_at "lo") (JV (Za (ZD (J1 (K:=K)) rfl T.z_list J3 (Za (pv 8) Zf)) (Za (VN (ZT (K:=K) (pv 9)) (Vs Zpc.nd) (fun _ _ _ _=>Zaq) (fun _ _ _ _=>(JV (Za (ZD (J1 (K:=K)) rfl T.z_list J3 (Za (ZC (Zp (K:=K)) (pv 14) Zh (fun _ _=>rfl)) Zf)) (Za (ZC (Zp (K:=K)) (pv 14) Zh (fun _ _=>rfl)) Zf)))) hv1 Zpc.nd rfl) Zf))))
   (Zd (JL (ZcA PySem.F.plainAttrs_list PySem.F.slot_list_append PySem.F.type_list_append JM (pv 8) (Za (JV (Za Zft (Za Zh Zf))) Zf)))
   (Zd (JK PassesOwn.never rfl (Jc rfl T.z_range (Za (Zr (Z5 (K:=K)) rfl T.z_len Jf (Za (pv 9) Zf)) Zf)) (ZW (i:=13) Zpc.nd rfl (by walk_at "lo")) (Zd (Jv (Z8 (U6 (K:=K) hu) (ZC (Zp (K:=K)) (pv 9) (pv 13) (fun _ _=>rfl)) (ZC (Zp (K:=K)) (ZC (Zp (K:=K)) (pv 12) Zh (fun _ _=>rfl)) (pv 13) (fun _ _=>rfl)) (ZE _)) (Zl (Z0 Zab)) ZF)
   (Zl (JL (ZcA PySem.F.plainAttrs_list PySem.F.slot_list_append PySem.F.type_list_append JM (ZC (Zp (K:=K)) (ZC (Zp (K:=K)) (pv 9) (pv 13) (fun _ _=>rfl)) Zh (fun _ _=>rfl)) (Za Zh Zf))))))
   (Zd (JL (ZcA PySem.F.plainAttrs_list PySem.F.slot_list_append PySem.F.type_list_append JM (pv 9) (Za (JV (Za (Vi Zf) (Za Zh Zf))) Zf)))
   (Zl (Z0 (ZbG (Vr (Vj (K:=K) hu) (Zq Zqc (hr.mono (by decide)) rfl (Za (ZC (Zp (K:=K)) (pv 6) Zh (fun _ _=>rfl)) (Za (ZC (Zp (K:=K)) (pv 6) Zh (fun _ _=>rfl)) Zf))) (pv 12) (ZE _)) (ZbE (Vr (Vj (K:=K) hu) (pv 6) (Vi (Za (pv 4) (Za (pv 5) Zf))) (ZE _)))))))))))))))))))))),
   (Zm (Γm:=[.S,.P,.P,.U,.U,.U,.U,.U,.U,.U,.U,.U,.U,.U]) (Zgh (DE.PF (UZ (Zg Zt) (Zb (Zk (i:=0) rfl) Ze))) (Zgm (n:=2) (UH (Zmb (i:=1) (by decide)) (UH (Zmb (i:=2) (by decide)) Zea))))
   (Zm (Γm:=[.S,.P,.P,.O,.U,.U,.U,.U,.U,.U,.U,.U,.U,.U]) (ZG (i:=3) (QU (Zg (Zg (Zg (Zg (Zg Zt))))) (Zb (Zk (i:=0) rfl) (Zb (DE.toA Zi) (Zb (DE.toA (QS (DE.toA Zi) (DE.toA (Zj (i:=2) rfl)))) (Zb (DE.toA (Zj (i:=1) rfl)) (Zb (DE.toA (Jm (g:=id) (DE.toA (Je (DE.toA (Ud (DE.toA (UZ (Zg (Zg Zt)) (Zb (Zk (i:=0) rfl) (Zb (DE.toA Zi) Ze)))) (DE.toA Zi))) (DE.toA Zi))) (DE.toA Zi))) Ze)))))) (by decide))
   (Zm (Γm:=[.S,.P,.P,.O,.O,.U,.U,.U,.U,.U,.U,.U,.U,.U]) (ZG (i:=4) (QU (Zg (Zg Zt)) (Zb (DE.toA (ZiW (Zs (i:=3) (m:=.O) rfl (by decide)) Zgj (Zgi (DE.toA (Zj (i:=2) rfl))))) (Zb (DE.toA (Zj (i:=1) rfl)) Ze))) (by decide))
   (Zm (Γm:=[.S,.P,.P,.O,.O,.O,.U,.U,.U,.U,.U,.U,.U,.U]) (ZG (i:=5) (QU (Zg (Zg Zt)) (Zb (Zk (i:=0) rfl) (Zb (DE.toA (Zj (i:=1) rfl)) Ze))) (by decide))
   (Zm (Γm:=[.S,.P,.P,.O,.O,.O,.O,.U,.U,.U,.U,.U,.U,.U]) (ZG (i:=6) (JS (ZA (Vu (Zb (Zs (i:=4) (m:=.O) rfl (by decide)) Ze)) (ZA (Vu (Zb (Zs (i:=5) (m:=.O) rfl (by decide)) Ze)) Ja))) (by decide))
   (Zm (Γm:=[.S,.P,.P,.O,.O,.O,.O,.O,.U,.U,.U,.U,.U,.U]) (ZG (i:=7) (QU (Zg (Zg Zt)) (Zb (Zw (te:=tC .non) (Zs (i:=6) (m:=.O) rfl (by decide)) (DE.toA Zi)) (Zb (Zw (te:=tC .non) (Zs (i:=6) (m:=.O) rfl (by decide)) (DE.toA Zi)) Ze))) (by decide))
   (Zm (Γm:=[.S,.P,.P,.O,.O,.O,.O,.O,.U,.U,.U,.U,.U,.U]) (Jw (Vt (Z3 (DE.toA (Jm (g:=(!·)) (Zs (i:=6) (m:=.O) rfl (by decide)) (Zgs (Zb (Zs (i:=4) (m:=.O) rfl (by decide)) (Zb (Zs (i:=5) (m:=.O) rfl (by decide)) Ze)))))) (Vt (JA (Zaz (DE.toA (JZ (Zs (i:=7) (m:=.O) rfl (by decide)))))) (Z3 (DE.toA (Jm (g:=(!·)) (DE.toA (Ji (Zb (Zs (i:=7) (m:=.O) rfl (by decide)) Ze))) (DE.toA Zi))))))
   (ZK Zah)
   ZH)
   (Zm (Γm:=[.S,.P,.P,.O,.O,.O,.O,.U,.O,.O,.U,.U,.U,.U]) (Zgh (Jt (i:=7) rfl) (Zgm (n:=2) (UH (Zmc (i:=8) (by decide)) (UH (Zmc (i:=9) (by decide)) Zea))))
   (Zm (Γm:=[.S,.P,.P,.O,.O,.O,.O,.U,.O,.O,.O,.U,.U,.U]) (ZG (i:=10) (QU (Zg (Zg (Zg Zt))) (Zb (Zs (i:=4) (m:=.O) rfl (by decide)) (Zb (Zs (i:=8) (m:=.O) rfl (by decide)) (Zb (Zs (i:=5) (m:=.O) rfl (by decide)) Ze)))) (by decide))
   (Zm (Γm:=[.S,.P,.P,.O,.O,.O,.O,.U,.O,.O,.O,.O,.U,.U]) (ZG (i:=11) (QU (Zg Zt) (Zb (Zs (i:=9) (m:=.O) rfl (by decide)) Ze)) (by decide))
   (Zm (Γm:=[.S,.P,.P,.O,.O,.O,.O,.U,.O,.O,.O,.O,.U,.U]) (Jw (Vt (Z3 (DE.toA (ZiY (Zs (i:=10) (m:=.O) rfl (by decide))))) (Vt (Z3 (DE.toA (ZiY (Zs (i:=11) (m:=.O) rfl (by decide))))) (Vt (Zaz (DE.toA (QT (Ju (Zb (Zs (i:=4) (m:=.O) rfl (by decide)) Ze)) (Zs (i:=11) (m:=.O) rfl (by decide))))) (Z3 (DE.toA (Jm (g:=(!·)) (DE.toA (QU (Zg (Zg Zt)) (Zb (Zs (i:=10) (m:=.O) rfl (by decide)) (Zb (Zs (i:=5) (m:=.O) rfl (by decide)) Ze)))) (DE.toA (JS Ja))))))))
   (ZK Zah)
   ZH)
   (Zm (Γm:=[.S,.P,.P,.O,.O,.O,.O,.U,.O,.O,.O,.O,.U,.U]) (Jw (Vt (Z3 (DE.toA (Jm (g:=(!·)) (DE.toA (Ji (Zb (Zs (i:=8) (m:=.O) rfl (by decide)) Ze))) (Us (Zs (i:=11) (m:=.O) rfl (by decide)) (Ju (Zb (Zs (i:=4) (m:=.O) rfl (by decide)) Ze)))))) (JA (Zaz (DE.toA (UZ (Zg (Zg (Zg (Zg Zt)))) (Zb (Zs (i:=9) (m:=.O) rfl (by decide)) (Zb (Zs (i:=11) (m:=.O) rfl (by decide)) (Zb (Zs (i:=4) (m:=.O) rfl (by decide)) (Zb (Zs (i:=5) (m:=.O) rfl (by decide)) Ze)))))))))
   (ZK Zah)
   ZH)
   (Zm (Γm:=[.S,.P,.P,.O,.O,.O,.O,.U,.O,.O,.O,.O,.O,.U]) (ZG (i:=12) (VG (ZA (Vu (Zb (Zs (i:=8) (m:=.O) rfl (by decide)) Ze)) (ZA (ZcR (i:=9) rfl Zca (VG (ZA (Vu (Zb (Zw (te:=tC .non) (Zk (i:=14) rfl) (DE.toA Zi)) Ze)) (ZA (DE.PF (DE.grd (Zw (te:=tC .non) (Zk (i:=14) rfl) (DE.toA Zi)))) Ja)))) Ja))) (by decide))
   (Zm (Γm:=[.S,.P,.P,.O,.O,.O,.O,.U,.O,.O,.O,.O,.O,.U]) (UR (i:=8) rfl rfl (DE.PF (DE.grd (UT (Zb (DE.toA Zgo) (Zb (DE.toA Zi) Ze))))))
   (Zm (Γm:=[.S,.P,.P,.O,.O,.O,.O,.U,.O,.O,.O,.O,.O,.U]) (JR (Γl:=[.S,.P,.P,.O,.O,.O,.O,.U,.O,.O,.O,.O,.O,.U]) (J8 (Zb (DE.toA (Ji (Zb (Zs (i:=9) (m:=.O) rfl (by decide)) Ze))) Ze)) rfl (ZeF (i:=13) (by decide))
   (DS.out (Y:=⟨[.S,.P,.P,.O,.O,.O,.O,.U,.O,.O,.O,.O,.O,.P],[.S,.P,.P,.O,.O,.O,.O,.U,.O,.O,.O,.O,.O,.U],[.S,.P,.P,.O,.O,.O,.O,.U,.O,.O,.O,.O,.O,.U],.P⟩) (Y':=⟨[.S,.P,.P,.O,.O,.O,.O,.U,.O,.O,.O,.O,.O,.U],[.S,.P,.P,.O,.O,.O,.O,.U,.O,.O,.O,.O,.O,.U],[.S,.P,.P,.O,.O,.O,.O,.U,.O,.O,.O,.O,.O,.U],.P⟩) (Zm (Γm:=[.S,.P,.P,.O,.O,.O,.O,.U,.O,.O,.O,.O,.O,.P]) (Jw (Z3 (DE.toA (Jm (g:=(!·)) (Zw (te:=tC .non) (Zs (i:=9) (m:=.O) rfl (by decide)) (DE.toA (Zj (i:=13) rfl))) (Zw (te:=tC .non) (Zw (te:=tC .non) (Zs (i:=12) (m:=.O) rfl (by decide)) (DE.toA Zi)) (DE.toA (Zj (i:=13) rfl))))))
   (ZK Zah)
   ZH)
   (ZeE (i:=9) rfl (Zkq (Zkp (l:=13) (m:=.P) rfl (by decide) Zko)))) rfl rfl rfl rfl))
   (Zm (Γm:=[.S,.P,.P,.O,.O,.O,.O,.U,.O,.O,.O,.O,.O,.U]) (UR (i:=9) rfl rfl (VG (ZA (JS Ja) (ZA (DE.PF Zi) Ja))))
   (ZK (Zcf (DE.toA (Jm (g:=id) (DE.toA (QU (Zg (Zg Zt)) (Zb (Zw (te:=tC .non) (Zs (i:=6) (m:=.O) rfl (by decide)) (DE.toA Zi)) (Zb (Zw (te:=tC .non) (Zs (i:=6) (m:=.O) rfl (by decide)) (DE.toA Zi)) Ze)))) (Zs (i:=12) (m:=.O) rfl (by decide)))) (Jm (g:=id) (Zs (i:=6) (m:=.O) rfl (by decide)) (Zgs (Zb (Zs (i:=4) (m:=.O) rfl (by decide)) (Zb (Zs (i:=5) (m:=.O) rfl (by decide)) Ze)))))))))))))))))))))), ?_⟩
 refine Pm.ref Zrt (g:=fun xs=>_) ?_
 intro (ns:List Int) (hn:ns.length<=63)
 simp only[Zrt]
 walk_at "pd"
 rw[Zsw]
 walk_at "pd"
 obtain⟨p2,p10,s0,s40,hcb⟩:=Znd (Jq ns 0)
 generalize fwP (Jq ns 0)=m at p2 p10 hcb
 generalize fwS (Jq ns 0)=s at s0 s40 hcb
 obtain⟨n,rfl⟩:∃n:Nat,m=n:=⟨m.toNat,by omega⟩
 rw[ZoW (by omega)]
 walk_at "pd"
 rw[Zsu ⟨by omega,⟨by omega,by omega⟩,⟨by omega,by omega⟩,by omega,by omega⟩]
 have hrl:(Zhc ns 2 (2*s) n (decide (Jq ns 0/2%2=1))).length=(2*s).toNat:=Zc6 ..
 have hrb:=Zjx ns 2 (2*s) (base:=(n:Int)) (by omega) (decide (Jq ns 0/2%2=1))
 generalize Zhc ns 2 (2*s) n (decide (Jq ns 0/2%2=1))=row at hrl hrb
 walk_at "pd"
 rw[Zsa ⟨fun x hx=>hrb x (Ztl hx),by omega,by omega⟩,Zta]
 have B:Bs n s (lyI n (row.take s.toNat)):=by
  have:=Zl7 (n:=n) (L:=row.take s.toNat) fun x hx=>hrb x (Ztl hx)
  rw[ZsY,hrl,show ((min s.toNat (2*s).toNat:Nat):Int)=s by omega] at this
  exact this
 generalize lyI n (row.take s.toNat)=b at B
 walk_at "pd"
 rw[Zsb ⟨by omega,by omega⟩,Zta]
 have L:=Zml ns (n:=n) (by omega)
 generalize brS ns n=l at L
 have hll:l.length<=n:=by
  have:=ZdK n (l.map fun z=>z.toNat) (by
   rw[ZtL,ZtH]
   refine L.up.imp_of_mem ?_
   intro a c ha hc hac e
   have:=L.al a ha
   have:=L.al c hc
   omega) (fun z hz=>by
   obtain⟨y,hy,rfl⟩:=ZsV.mp hz
   have:=L.al y hy
   omega)
  rw[ZsI] at this
  exact this
 have bl:=B.1
 have hbl:b.length<=1000:=by omega
 have hll2:l.length<=1000:=by omega
 have hC:=ZqS (b:=b) (l:=l) (Zfr (by omega) (by omega) (by omega) B L hcb hll2)
 rw[bl] at hC
 obtain⟨q,hq⟩:=ZtN l L.ne
 have F:V3 n s l b:=⟨⟨by omega,fun p hp=>(Vl.mp hp).1,B,hcb⟩,q,hq,L.al q hq⟩
 have hk0:∀x y:PV,pIx (.lst [x,y]) (.int 0)=.ok x:=fun _ _=>rfl
 have hk1:∀x y:PV,pIx (.lst [x,y]) (.int 1)=.ok y:=fun _ _=>rfl
 have hE:∀g:Bool->Bool,Zac g (.lst [.lst (b.map PV.int),.lst (l.map PV.int)]) (.lst [.lst (b.map PV.int),.lst (l.map PV.int)])=.ok (.bl (g true)):=fun g=>by
  have:=Zhz (g:=g) [b,l] [b,l]
  rw[decide_eq_true rfl] at this
  exact this
 walk_at "pd"
 rw[hk0,hk1]
 walk_at "pd"
 rw[hC]
 walk_at "pd"
 rw[hE]
 walk_at "pd"
 have k0:=ZaE (Zc n l) b
 have k1:=Q4 (Zc n l) b
 have hpl:=JO n l
 have hpn:(plP (Zc n l) b).length=(rkB (Zc n l) b).toNat:=by simp[plP]
 rw[Zsv ⟨⟨fun t ht=>by
  obtain⟨o1,o2⟩:=F.pl_ok ht
  obtain⟨o3,o4⟩:=Vl.mp o1
  exact⟨⟨⟨o3.1,by omega⟩,o2⟩,o4⟩⟩,hbl⟩]
 obtain⟨_,h1,h2⟩:=F.pl_end
 have Bh:=h1.bs F.f.hP F.f.hb
 generalize hhd:ZaZ b (plP (Zc n l) b)=hd at h1 h2 Bh
 have hLe:(JF (Zc n l) b).map (Zaa (Zc n l))=((JF (Zc n l) b).map fun x=>(x,rkB (Zc n l) x)).map rkQ:=by rw[Ztd];rfl
 have hLf:((JF (Zc n l) b).map fun x=>(x,rkB (Zc n l) x)).map (·.1)=JF (Zc n l) b:=by
  rw[Ztd]
  exact List.map_id _
 have hLs:(((JF (Zc n l) b).map fun x=>(x,rkB (Zc n l) x)).map (·.2)).map PV.int=(JF (Zc n l) b).map fun x=>.int (rkB (Zc n l) x):=by rw[Ztd,Ztd];rfl
 have hle:(JF (Zc n l) b).length<=1000:=by
  unfold JF
  rw[(ZP _).length_eq]
  exact F.f.le _
 have hNum:Zod.fn [.lst ((JF (Zc n l) b).map (Zaa (Zc n l)))]=.ok (.box none (.dt ((JF (Zc n l) b).map tI)) ((JF (Zc n l) b).map fun x=>.int (rkB (Zc n l) x))):=by
  rw[hLe,ZqV ⟨by rw[ZsI];omega,by rw[hLf];exact Zc2 (ZaG _ _)⟩,hLf,hLs]
 have hbm:b∈JF (Zc n l) b:=F.f.com.mpr .refl
 walk_at "pd"
 rw[hNum]
 walk_at "pd"
 rw[show Ua [PV.lst (b.map PV.int)]=.ok (ZR b) from rfl]
 walk_at "pd"
 rw[Zf5,Vw (f:=fun x=>PV.int (rkB (Zc n l) x)) (QW _ _) hbm]
 simp only[ZuS,Bool.not_true]
 walk_at "pd"
 rw[Zqr (by have:=Bh.1;omega),Bh.1,h2]
 walk_at "pd"
 have hNb:∀x y,ZmN id (PV.box none x y)=.ok (.bl false):=fun _ _=>rfl
 rw[hNb]
 walk_at "pd"
 rw[ZaM,ZsI,hpn,show Ua [PV.lst (b.map PV.int)]=.ok (ZR b) from rfl]
 walk_at "pd"
 rw[VB (Vw (f:=fun x=>PV.int (rkB (Zc n l) x)) (QW _ _) hbm)]
 walk_at "pd"
 have hRR:=Zqq (b:=b) (l:=l) ⟨by omega,s,by rw[bl];exact F⟩
 rw[bl] at hRR
 rw[hRR]
 walk_at "pd"
 rw[decide_eq_true (show ((rkB (Zc n l) b).toNat:Int)=rkB (Zc n l) b by omega)]
 walk_at "pd"
 have hLn:∀y∈((JF (Zc n l) b).map fun x=>(x,rkB (Zc n l) x)),y.1.length<=24:=fun y hy=>by
  obtain⟨x,hx,rfl⟩:=ZsV.mp hy
  have:=((F.f.com.mp hx).bs F.f.hP F.f.hb).1
  show x.length<=24
  omega
 have hLl:((JF (Zc n l) b).map fun x=>(x,rkB (Zc n l) x)).length<=1000:=by rw[ZsI];omega
 rw[hLe] at hC ⊢
 clear hRR hNum hLe hLf hLs
 generalize ((JF (Zc n l) b).map fun x=>(x,rkB (Zc n l) x))=LL at hC hLn hLl
 generalize (JF (Zc n l) b).map tI=kk
 generalize ((JF (Zc n l) b).map fun x=>PV.int (rkB (Zc n l) x))=ww
 have hpl2:(plP (Zc n l) b).length<=10000:=by omega
 generalize plP (Zc n l) b=pl at hC hpl2
 rw[show ZbI [PV.lst (pl.map Zcb)]=newF (pl.map Zcb) from rfl,ZfD (q:=Zcb) (fun _=>rfl) (by omega)]
 walk_at "pd"
 rw[Zgc (q:=rkQ) (p:=fun _=>true) (g:=rkQ) (fun y hy=>by
  have:=hLn y hy
  rw[show rkQ y=.tup [.lst (y.1.map PV.int),.int y.2] from rfl]
  walk_at "pd"),show LL.filter (fun _=>true)=LL from Zue.mpr fun _ _=>rfl]
 walk_at "pd"
 rw[U5 (by rw[ZsI];omega)]
 walk_at "pd"
 rw[ZaM,ZsI]
 walk_at "pd"
 generalize hw:QO _ _ _=W
 obtain⟨ρ',rfl,v,rfl⟩:=ZU hw (fun i ρ=>∃v,ρ=[.lst (ns.map PV.int),.int n,.int s,.lst (row.map PV.int),.lst (b.map PV.int),.lst (l.map PV.int),.lst [.lst (b.map PV.int),.lst (l.map PV.int)],.tup [.lst (pl.map Zcb),.lst (LL.map rkQ)],.lst (pl.map Zcb++[.tup [.str "sow",.int 0]]),.lst ((apA LL i).map rkQ),.lst (hd.map PV.int),.box none (.dt kk) ww,.tup [.lst (pl.map Zcb),.lst (LL.map rkQ)],v]) ⟨_,rfl⟩ (by
  rintro i x ρ hx ⟨v,rfl⟩
  obtain⟨hi,rfl⟩:=JU hx
  rw[ZtW]
  have hi':i<LL.length:=by omega
  walk_at "pd"
  rw[Zhx (q:=rkQ) (d:=(([],0):List Int×Int)) (by omega) (by rw[Zde];omega),Zhx (q:=rkQ) (d:=(([],0):List Int×Int)) (by omega) (by omega),Zta,Zdf hi']
  walk_at "pd"
  rw[ZdF (Zmh _)]
  walk_at "pd"
  have hy:=hLn (LL.getD i ([],0)) (by rw[ZsG,ZsH hi'];exact Zux _)
  rw[ZmO (g:=ap0) (L:=apA LL i) (k:=i) (by rw[Zde];exact hi') (by rw[Zdf hi'];exact ZbK (by omega)) rfl,Zdf hi',Zix hi']
  walk_at "pd"
  exact JT ⟨_,rfl⟩)
 walk_at "pd"
 rw[U5 (by rw[ZsI,Zde];omega)]
 walk_at "pd"
 rw[hk0,hk1]
 walk_at "pd"
 rw[hC]
 walk_at "pd"
 rw[ZdF (Zim pl LL)]
 walk_at "pd"
 rw[hE]
 walk_at "pd"
noncomputable def Zfb(K:W.Frag):Sp:=spF K 1 .P W0 Zrt.fn
theorem ZlB{l:PySem.W.OpenLaw}(T:Txt K mg){fa:Addr}(hmg:mg "law"=some (.ref fa)):∃fd:FuncData,(∀(s:Shared) (u:Value),BindsTo s fd ⟨[u],[]⟩ [("script",u)]) /\
  ∀base:Heap,K.In base->base.Ns mainGlobals mg->JB l.prog w K mg base CX0 9 fa fd ["script"] (Zfb K):=by
 obtain⟨f,fd,F,hm⟩:=T.ZsF
 rw[hmg] at hm
 cases hm
 refine⟨fd,fun s u=>?_,fun base _ _=>ZsD T F⟩
 obtain⟨oc,od,kV,doc,pm,an,cdv,ct,osl,rfl,lk,hcd⟩:=F.ex
 exact .of_eq (ZsE kV doc pm an cdv ct [u] rfl)
theorem ZfK{H:Hp}{a:Addr}{ns:List Int}(hl:ns.length<=63)(hS:SqL K H a (ns.map V.int)):Zfb K [.ref a] H (fun v _=>v=.bl true) fun _ _ _=>False:=
 Ze4 (Pm.fn_eq Zrt ns hl fun _ _=>rfl) hS
end
theorem ZI{K:W.Frag}{h:Heap}{mg:Str->Option Value}{x:Str}{st:Stmt}{f:Addr}{od an:Option Addr}{sl:Array (Option Value)}{oc kV dc pm cd ct:Value}(X:K.In h)(G:h.Ns mainGlobals mg)(a:PySem.W.nsIn K mainGlobals x=some (some (.ref f)))(l:K.lookup f=some ⟨oc,od,.func (PySem.W.fnOf x x (US st) (Vd st) (Zn st) .none kV dc pm an cd ct),sl⟩)(c:PySem.W.codeIn K cd x=true)(k:PySem.W.keepIn K (.ref f)=true):Dfn K mg x st:=⟨_,_,ZlS (st:=st) l c k,PySem.W.mg_of X G a⟩
theorem Zgz{K:W.Frag}{h:Heap}{mg:Str->Option Value}{x:Str}{v:Tok->Value}{t:Tok}(X:K.In h)(G:h.Ns mainGlobals mg)(a:PySem.W.nsIn K mainGlobals x=some (some (v t))):∃t,mg x=some (v t):=⟨t,PySem.W.mg_of X G a⟩
end My
namespace PySem.W.Fast
noncomputable def tw14788158073837911040:=()
noncomputable def tw16940225830925271072:=()
noncomputable def tw12592019061935693920:=()
noncomputable def tw8987404664637856160:=()
noncomputable def tw14960134244257190464:=()
noncomputable def tw10710833693966985824:=()
noncomputable def tw1227679320062788288:=()
noncomputable def tw12164903996611061472:=()
noncomputable def tw10835313714089869056:=()
noncomputable def tw5341094588250651745:=()
noncomputable def tw16671077325428437537:=()
noncomputable def tw3868436505721755970:=()
noncomputable def tw15751848569825752514:=()
noncomputable def tw17941402636501774882:=()
noncomputable def tw17186265906331647682:=()
noncomputable def tw7950195938313789507:=()
noncomputable def tw3725933935578371267:=()
noncomputable def tw4229500729738127651:=()
noncomputable def tw15374702832614835523:=()
noncomputable def tw87187645425983811:=()
noncomputable def tw11789141210095661827:=()
noncomputable def tw5516939975736397731:=()
noncomputable def tw1197742428010656772:=()
noncomputable def tw5796870236851359844:=()
noncomputable def tw16427047577562338500:=()
noncomputable def tw11076618626286354660:=()
noncomputable def tw18115412884556231012:=()
noncomputable def tw7681827440231169380:=()
noncomputable def tw14952417556398507460:=()
noncomputable def tw3074357027754609156:=()
noncomputable def tw16607280500698752548:=()
noncomputable def tw13871994368085375556:=()
noncomputable def tw12246281773244912356:=()
noncomputable def tw1362269033948171012:=()
noncomputable def tw14783969920424037188:=()
noncomputable def tw11422683686103796676:=()
noncomputable def tw17223779658143390660:=()
noncomputable def tw14453765955747065893:=()
noncomputable def tw9850467824350635045:=()
noncomputable def tw15713550316651014309:=()
noncomputable def tw16440046274869154981:=()
noncomputable def tw15720774064568955173:=()
noncomputable def tw13708106267984127301:=()
noncomputable def tw7752137658958319941:=()
noncomputable def tw3639515142589520261:=()
noncomputable def tw1262864361256697221:=()
noncomputable def tw13951947834847908229:=()
noncomputable def tw12189761626726639109:=()
noncomputable def tw8457134829866033797:=()
noncomputable def tw3884204742495156933:=()
noncomputable def tw12506079635641850565:=()
noncomputable def tw17247131229395557157:=()
noncomputable def tw618140137147291525:=()
noncomputable def tw12322671314538674117:=()
noncomputable def tw12396885818070829029:=()
noncomputable def tw4330124639803706438:=()
noncomputable def tw9843695966581130502:=()
noncomputable def tw7991485813678663974:=()
noncomputable def tw18120984471137652070:=()
noncomputable def tw13455351398002653638:=()
noncomputable def tw10766755200770722598:=()
noncomputable def tw6203932805028680711:=()
noncomputable def tw15850303534073838695:=()
noncomputable def tw8871465138898938983:=()
noncomputable def tw4736979630362211559:=()
noncomputable def tw15991757667148401959:=()
noncomputable def tw170841536884781415:=()
noncomputable def tw4778735263528565127:=()
noncomputable def tw11496403670905795015:=()
noncomputable def tw10615581573524731335:=()
noncomputable def tw7084805297460274695:=()
noncomputable def tw6537446029687510919:=()
noncomputable def tw7393246382092081063:=()
noncomputable def tw17835041458109435400:=()
noncomputable def tw8234353815220766248:=()
noncomputable def tw499480409035765352:=()
noncomputable def tw13786456785818189576:=()
noncomputable def tw13526075653862542184:=()
noncomputable def tw8415451346639834345:=()
noncomputable def tw17001838922110982441:=()
noncomputable def tw15229015475293631913:=()
noncomputable def tw13549095297521577513:=()
noncomputable def tw15479793288531125193:=()
noncomputable def tw11924374402917786026:=()
noncomputable def tw7982054641635524234:=()
noncomputable def tw17749514844727698154:=()
noncomputable def tw2099284561896724234:=()
noncomputable def tw2445713880857339690:=()
noncomputable def tw8496434915084963979:=()
noncomputable def tw12547453868554378507:=()
noncomputable def tw15112649445375180299:=()
noncomputable def tw8725398382633215563:=()
noncomputable def tw13192568904291448491:=()
noncomputable def tw12429878497573403435:=()
noncomputable def tw15711692840307707916:=()
noncomputable def tw13659314286499799084:=()
noncomputable def tw13791594269486314604:=()
noncomputable def tw14262690398519629004:=()
noncomputable def tw2359135594442949900:=()
noncomputable def tw11811004177153065388:=()
noncomputable def tw14710404020740952524:=()
noncomputable def tw2574507385425987212:=()
noncomputable def tw9450344628729732812:=()
noncomputable def tw3378294647826756460:=()
noncomputable def tw6909119551563606061:=()
noncomputable def tw16708631149756079245:=()
noncomputable def tw16270902414576065837:=()
noncomputable def tw3114740699334328749:=()
noncomputable def tw7401111518178712141:=()
noncomputable def tw9468555304301932109:=()
noncomputable def tw2321875209923783437:=()
noncomputable def tw5194228247609842445:=()
noncomputable def tw15064775358343289805:=()
noncomputable def tw8080619752032509966:=()
noncomputable def tw8129630704011957294:=()
noncomputable def tw11250458026529178734:=()
noncomputable def tw5499887698260887758:=()
noncomputable def tw5660261210792731886:=()
noncomputable def tw6625185739884120398:=()
noncomputable def tw15529692749785399630:=()
noncomputable def tw13848977364436105614:=()
noncomputable def tw13456049529198026190:=()
noncomputable def tw12752010478075516430:=()
noncomputable def tw1397249511520583278:=()
noncomputable def tw1484946953411863246:=()
noncomputable def tw17391024557066172142:=()
noncomputable def tw1083968982570094510:=()
noncomputable def tw11563148965554961615:=()
noncomputable def tw9660590961238154575:=()
noncomputable def tw17765889579014654319:=()
noncomputable def tw2915406007535219631:=()
noncomputable def tw3101206039522117551:=()
noncomputable def tw1885433493760519184:=()
noncomputable def tw4971605697742433392:=()
noncomputable def tw1576542660766939792:=()
noncomputable def tw5141582107903616720:=()
noncomputable def tw3121887604972840720:=()
noncomputable def tw5895031558552999185:=()
noncomputable def tw12687021814977658129:=()
noncomputable def tw10548382373989716369:=()
noncomputable def tw13893417211903873617:=()
noncomputable def tw8903816632627716977:=()
noncomputable def tw4208470239916898257:=()
noncomputable def tw9742384792003831761:=()
noncomputable def tw13736379763552365714:=()
noncomputable def tw16104564199184515250:=()
noncomputable def tw13274352062658143410:=()
noncomputable def tw602071635183879410:=()
noncomputable def tw16950059800488890034:=()
noncomputable def tw3540897255833902834:=()
noncomputable def tw4846756653626773298:=()
noncomputable def tw5738570541130978258:=()
noncomputable def tw15347466646418031763:=()
noncomputable def tw10702526402535520531:=()
noncomputable def tw14837673526836665651:=()
noncomputable def tw5095667786161171795:=()
noncomputable def tw12909445150548197779:=()
noncomputable def tw3453093684958840243:=()
noncomputable def tw14985205335718045203:=()
noncomputable def tw3512902377430999635:=()
noncomputable def tw3710330612413101715:=()
noncomputable def tw5507688870875268787:=()
noncomputable def tw17448479584365878035:=()
noncomputable def tw2430910578604035923:=()
noncomputable def tw12883845433284643924:=()
noncomputable def tw168523027897345172:=()
noncomputable def tw6876655027925682356:=()
noncomputable def tw3161412693901103444:=()
noncomputable def tw16279692881270036980:=()
noncomputable def tw5408686283737040404:=()
noncomputable def tw18156285498985982516:=()
noncomputable def tw8128677803743445684:=()
noncomputable def tw1416816659484332756:=()
noncomputable def tw1517914873602200340:=()
noncomputable def tw556728174197367829:=()
noncomputable def tw10980248460089994357:=()
noncomputable def tw15705599581167006133:=()
noncomputable def tw15263116411395286645:=()
noncomputable def tw6471161867952990165:=()
noncomputable def tw73763431359407414:=()
noncomputable def tw6124059432796812918:=()
noncomputable def tw1797032382939910902:=()
noncomputable def tw17929472699979086614:=()
noncomputable def tw5637353274120528790:=()
noncomputable def tw1036409069498040246:=()
noncomputable def tw3462352981764564950:=()
noncomputable def tw5132220089589210070:=()
noncomputable def tw11162727791172342135:=()
noncomputable def tw4482867624830575191:=()
noncomputable def tw1081444252033355511:=()
noncomputable def tw6799834601898296055:=()
noncomputable def tw6812851208475605911:=()
noncomputable def tw17215631402132538327:=()
noncomputable def tw16196419355785942999:=()
noncomputable def tw5066719956273938488:=()
noncomputable def tw4948988607286512728:=()
noncomputable def tw827407052847451384:=()
noncomputable def tw13535747263767129560:=()
noncomputable def tw4974550106481249752:=()
noncomputable def tw12283040575153706872:=()
noncomputable def tw5448762197700142040:=()
noncomputable def tw2190960541027617817:=()
noncomputable def tw17504334710255073337:=()
noncomputable def tw5297291884422440121:=()
noncomputable def tw13870114256970012857:=()
noncomputable def tw15610790089399529721:=()
noncomputable def tw232802267795660121:=()
noncomputable def tw15825383840904913273:=()
noncomputable def tw798358269695485465:=()
noncomputable def tw4962351649149712953:=()
noncomputable def tw4463315306134276697:=()
noncomputable def tw14959566550719140665:=()
noncomputable def tw17822670267613952122:=()
noncomputable def tw2230288296870696154:=()
noncomputable def tw7618973147386910170:=()
noncomputable def tw14766473445919208954:=()
noncomputable def tw1744075964907250554:=()
noncomputable def tw4242137767053783067:=()
noncomputable def tw3178256867109602555:=()
noncomputable def tw4714288933717446939:=()
noncomputable def tw2961713431512815995:=()
noncomputable def tw2502408841011483067:=()
noncomputable def tw8864915000745922075:=()
noncomputable def tw9685188331114751643:=()
noncomputable def tw9351963560735591163:=()
noncomputable def tw13565182673313105787:=()
noncomputable def tw1084246464012703804:=()
noncomputable def tw10049762529605344380:=()
noncomputable def tw15970521649025912156:=()
noncomputable def tw18084052202456179132:=()
noncomputable def tw2854000668615325148:=()
noncomputable def tw7284378074708104796:=()
noncomputable def tw17408122596653544156:=()
noncomputable def tw14825107239115056988:=()
noncomputable def tw16125125109932331996:=()
noncomputable def tw13511360506404514812:=()
noncomputable def tw953453007405686780:=()
noncomputable def tw9304943107978633245:=()
noncomputable def tw6709510621653988445:=()
noncomputable def tw9984357372514005373:=()
noncomputable def tw15528067146320696733:=()
noncomputable def tw13084885314177123005:=()
noncomputable def tw15067273978697411806:=()
noncomputable def tw17761149969017889022:=()
noncomputable def tw1288409578919190078:=()
noncomputable def tw5745648415242135198:=()
noncomputable def tw7560817849636426815:=()
noncomputable def tw14402802980235178271:=()
noncomputable def tw9645239208651101535:=()
noncomputable def tw12321901667991682495:=()
noncomputable def tw15443965552124861983:=()
noncomputable def tw10713327785418433087:=()
noncomputable def tw6035055042021110335:=()
noncomputable def tw8697640409553751007:=()
noncomputable def tw11346966195948712595:=()
noncomputable def tw12042730596047000093:=()
noncomputable def tw7174759989364439426:=()
noncomputable def tw17493525560104129068:=()
noncomputable def tw7724972936477640848:=()
noncomputable def tw3833134545623558773:=()
noncomputable def tw1527972456824706107:=()
noncomputable def tw4756319717041550117:=()
noncomputable def tw7209532712983589810:=()
noncomputable def tw415223059131109247:=()
noncomputable def tw12604085034817337274:=()
noncomputable def tw10605401320636317277:=()
noncomputable def tw8032014719432790836:=()
noncomputable def tw9787815431743764752:=()
noncomputable def tw11525456941890984495:=()
noncomputable def tw6012596573894442841:=()
noncomputable def tw3143497192002214164:=()
noncomputable def tw14226589140504124823:=()
noncomputable def tw2957379462898843217:=()
noncomputable def tw2609374658889661432:=()
noncomputable def tw14420147284068559225:=()
noncomputable def tw5018403633742061602:=()
noncomputable def tw508985682249529516:=()
noncomputable def tw8291803291478117905:=()
noncomputable def tw5530380835096755102:=()
noncomputable def tw9283003116752993023:=()
noncomputable def tw16961569050590386829:=()
noncomputable def tw13454961239365522387:=()
noncomputable def tw11599715041904018787:=()
noncomputable def tw455787944048395837:=()
noncomputable def tw12301377425817789037:=()
noncomputable def tw11474828103792029103:=()
noncomputable def tw3606309842726128376:=()
noncomputable def tw8845506528179276705:=()
noncomputable def tw7272281532809403517:=()
noncomputable def tw4287326263021982893:=()
noncomputable def tw10033460953114611677:=()
noncomputable def tw14872228173260164044:=()
end PySem.W.Fast
open PySem PySem.W PyProof.Rows
set_option maxRecDepth 100000 in
set_option maxHeartbeats 0 in
theorem PySem.Challenge.cw_sowring_k27_whole_longest_play_holds : PySem.Challenge.rw_sowring_k27_whole_longest_play.Holds := by
 w_on;o_law;k_head;(case hw=>w_witness2)
 k_fill
 refine L2.ZgR (l:=PySem.Challenge.rw_sowring_k27_whole_longest_play) (n:=63) (k:=9) (x := "script") (CX:=L2.CX0) (sp:=My.Zfb) rfl (by decide) rfl ⟨rfl,by decide,by decide⟩ (fun w h Y=>⟨PySem.W.km_in_of Y,L2.ZfP (by kernel_rfl) (PySem.W.km_tabs_of Y)⟩) ?F ?S ?C
 case F =>
  intro w mg fa h KX G hmg
  have T:My.Txt (L2.KOf KX) mg:=by
   dsimp only[L2.KOf]
   refine' ⟨My.ZI KX G ?a0 ?l0 ?c0 ?k0,My.ZI KX G ?a1 ?l1 ?c1 ?k1,My.ZI KX G ?a2 ?l2 ?c2 ?k2,My.ZI KX G ?a3 ?l3 ?c3 ?k3,My.ZI KX G ?a4 ?l4 ?c4 ?k4,My.ZI KX G ?a5 ?l5 ?c5 ?k5,My.ZI KX G ?a6 ?l6 ?c6 ?k6,My.ZI KX G ?a7 ?l7 ?c7 ?k7,My.ZI KX G ?a8 ?l8 ?c8 ?k8,My.ZI KX G ?a9 ?l9 ?c9 ?k9,My.ZI KX G ?a10 ?l10 ?c10 ?k10,My.ZI KX G ?a11 ?l11 ?c11 ?k11,My.ZI KX G ?a12 ?l12 ?c12 ?k12,My.ZI KX G ?a13 ?l13 ?c13 ?k13,My.ZI KX G ?a14 ?l14 ?c14 ?k14,My.ZI KX G ?a15 ?l15 ?c15 ?k15,My.ZI KX G ?a16 ?l16 ?c16 ?k16,My.ZI KX G ?a17 ?l17 ?c17 ?k17,My.ZI KX G ?a18 ?l18 ?c18 ?k18,My.ZI KX G ?a19 ?l19 ?c19 ?k19,My.ZI KX G ?a20 ?l20 ?c20 ?k20,My.ZI KX G ?a21 ?l21 ?c21 ?k21,My.ZI KX G ?a22 ?l22 ?c22 ?k22,My.ZI KX G ?a23 ?l23 ?c23 ?k23,My.ZI KX G ?a24 ?l24 ?c24 ?k24,My.ZI KX G ?a25 ?l25 ?c25 ?k25,My.ZI KX G ?a26 ?l26 ?c26 ?k26,My.ZI KX G ?a27 ?l27 ?c27 ?k27,My.ZI KX G ?a28 ?l28 ?c28 ?k28,My.ZI KX G ?a29 ?l29 ?c29 ?k29,My.ZI KX G ?a30 ?l30 ?c30 ?k30,My.ZI KX G ?a31 ?l31 ?c31 ?k31,My.ZI KX G ?a32 ?l32 ?c32 ?k32,My.ZI KX G ?a33 ?l33 ?c33 ?k33,My.ZI KX G ?a34 ?l34 ?c34 ?k34,My.ZI KX G ?a35 ?l35 ?c35 ?k35,My.ZI KX G ?a36 ?l36 ?c36 ?k36,My.Zgz KX G ?b0,My.Zgz KX G ?b1,My.Zgz KX G ?b2,PySem.W.mg_none_of KX G ?z0,PySem.W.mg_none_of KX G ?z1,PySem.W.mg_none_of KX G ?z2,PySem.W.mg_none_of KX G ?z3,PySem.W.mg_none_of KX G ?z4,PySem.W.mg_none_of KX G ?z5,PySem.W.mg_none_of KX G ?z6,PySem.W.mg_none_of KX G ?z7,PySem.W.mg_none_of KX G ?z8,PySem.W.mg_none_of KX G ?z9,PySem.W.mg_none_of KX G ?z10,PySem.W.mg_none_of KX G ?z11, ?l_lam⟩
   (case a0=>k_is)
   (case l0=>k_is)
   (case c0=>k_is)
   (case k0=>k_is)
   (case a1=>k_is)
   (case l1=>k_is)
   (case c1=>k_is)
   (case k1=>k_is)
   (case a2=>k_is)
   (case l2=>k_is)
   (case c2=>k_is)
   (case k2=>k_is)
   (case a3=>k_is)
   (case l3=>k_is)
   (case c3=>k_is)
   (case k3=>k_is)
   (case a4=>k_is)
   (case l4=>k_is)
   (case c4=>k_is)
   (case k4=>k_is)
   (case a5=>k_is)
   (case l5=>k_is)
   (case c5=>k_is)
   (case k5=>k_is)
   (case a6=>k_is)
   (case l6=>k_is)
   (case c6=>k_is)
   (case k6=>k_is)
   (case a7=>k_is)
   (case l7=>k_is)
   (case c7=>k_is)
   (case k7=>k_is)
   (case a8=>k_is)
   (case l8=>k_is)
   (case c8=>k_is)
   (case k8=>k_is)
   (case a9=>k_is)
   (case l9=>k_is)
   (case c9=>k_is)
   (case k9=>k_is)
   (case a10=>k_is)
   (case l10=>k_is)
   (case c10=>k_is)
   (case k10=>k_is)
   (case a11=>k_is)
   (case l11=>k_is)
   (case c11=>k_is)
   (case k11=>k_is)
   (case a12=>k_is)
   (case l12=>k_is)
   (case c12=>k_is)
   (case k12=>k_is)
   (case a13=>k_is)
   (case l13=>k_is)
   (case c13=>k_is)
   (case k13=>k_is)
   (case a14=>k_is)
   (case l14=>k_is)
   (case c14=>k_is)
   (case k14=>k_is)
   (case a15=>k_is)
   (case l15=>k_is)
   (case c15=>k_is)
   (case k15=>k_is)
   (case a16=>k_is)
   (case l16=>k_is)
   (case c16=>k_is)
   (case k16=>k_is)
   (case a17=>k_is)
   (case l17=>k_is)
   (case c17=>k_is)
   (case k17=>k_is)
   (case a18=>k_is)
   (case l18=>k_is)
   (case c18=>k_is)
   (case k18=>k_is)
   (case a19=>k_is)
   (case l19=>k_is)
   (case c19=>k_is)
   (case k19=>k_is)
   (case a20=>k_is)
   (case l20=>k_is)
   (case c20=>k_is)
   (case k20=>k_is)
   (case a21=>k_is)
   (case l21=>k_is)
   (case c21=>k_is)
   (case k21=>k_is)
   (case a22=>k_is)
   (case l22=>k_is)
   (case c22=>k_is)
   (case k22=>k_is)
   (case a23=>k_is)
   (case l23=>k_is)
   (case c23=>k_is)
   (case k23=>k_is)
   (case a24=>k_is)
   (case l24=>k_is)
   (case c24=>k_is)
   (case k24=>k_is)
   (case a25=>k_is)
   (case l25=>k_is)
   (case c25=>k_is)
   (case k25=>k_is)
   (case a26=>k_is)
   (case l26=>k_is)
   (case c26=>k_is)
   (case k26=>k_is)
   (case a27=>k_is)
   (case l27=>k_is)
   (case c27=>k_is)
   (case k27=>k_is)
   (case a28=>k_is)
   (case l28=>k_is)
   (case c28=>k_is)
   (case k28=>k_is)
   (case a29=>k_is)
   (case l29=>k_is)
   (case c29=>k_is)
   (case k29=>k_is)
   (case a30=>k_is)
   (case l30=>k_is)
   (case c30=>k_is)
   (case k30=>k_is)
   (case a31=>k_is)
   (case l31=>k_is)
   (case c31=>k_is)
   (case k31=>k_is)
   (case a32=>k_is)
   (case l32=>k_is)
   (case c32=>k_is)
   (case k32=>k_is)
   (case a33=>k_is)
   (case l33=>k_is)
   (case c33=>k_is)
   (case k33=>k_is)
   (case a34=>k_is)
   (case l34=>k_is)
   (case c34=>k_is)
   (case k34=>k_is)
   (case a35=>k_is)
   (case l35=>k_is)
   (case c35=>k_is)
   (case k35=>k_is)
   (case a36=>k_is)
   (case l36=>k_is)
   (case c36=>k_is)
   (case k36=>k_is)
   (case b0=>k_is)
   (case b1=>k_is)
   (case b2=>k_is)
   (case z0=>k_is)
   (case z1=>k_is)
   (case z2=>k_is)
   (case z3=>k_is)
   (case z4=>k_is)
   (case z5=>k_is)
   (case z6=>k_is)
   (case z7=>k_is)
   (case z8=>k_is)
   (case z9=>k_is)
   (case z10=>k_is)
   (case z11=>k_is)
   (case l_lam=>kernel_rfl)
  exact My.ZlB T hmg
 case S=>exact fun K H a ns hl hS=>My.ZfK hl hS
 case C=>exact fun _ _ _ _ z=>z
